"""Runs: programs carried out, numbers whole, names unset refused, so many steps at most."""

from neatwright.errors import BadRun, BadSize
from neatwright.trees import check_program, inner_worths

MOST = 10 ** 30
# How many calls may be carried out one within another.
DEEPEST = 40


class Run:
    """A program that is carried out: what it said, its names, its defs and the steps left."""

    def __init__(self, rows, most=1000):
        if most < 0:
            raise BadSize('fewer steps than none')
        self.rows = check_program(rows)
        self.defs = {}
        self.names = {}
        self.said = []
        self.left = most
        self.deep = 0

    def spend(self):
        """Use up a step; BadRun for none left."""
        if self.left == 0:
            raise BadRun('no steps left')
        self.left -= 1

    def carry(self, rows, names):
        """Carry out steps over a table of names; tell what was given, None for nothing; BadRun."""
        return self.go_on(list(rows[::-1]), names)

    def branch(self, row, names):
        """Carry out an if or a while; tell what was given, None for nothing; BadRun."""
        return self.go_on(self.chosen(row, names), names)

    def go_on(self, ahead, names):
        """Carry out what is ahead, a list, the last first; tell what was given, None for nothing; BadRun."""
        # What a block holds is put ahead, so blocks one in another need no calls of this one in another.
        while ahead != []:
            row = ahead.pop()
            if row[0] == 'again':
                ahead.extend(self.chosen(row[1], names))
                continue
            self.spend()
            if row[0] == 'give':
                return self.worth(row[1], names)
            if row[0] == 'set':
                names[row[1]] = self.worth(row[2], names)
            elif row[0] == 'say':
                self.said.append(self.worth(row[1], names))
            elif row[0] == 'def':
                self.defs[row[1]] = row
            else:
                ahead.extend(self.chosen(row, names))
        return None

    def chosen(self, row, names):
        """Return what an if's or a while's test puts ahead, the last first, ("again", while) behind a round; BadRun."""
        holds = self.worth(row[1], names) != 0
        if row[0] == 'if':
            return list((row[2] if holds else row[3])[::-1])
        if not holds:
            return []
        self.spend()
        return [('again', row)] + list(row[2][::-1])

    def worth(self, tree, names):
        """Return a worth's number over a table of names, the left ones first; BadRun."""
        # Worths one in another may be deep, and calls are deep besides: so what is ahead stands in a list here, too.
        numbers = []
        ahead = [tree]
        while ahead != []:
            one = ahead.pop()
            if one[0] == 'num':
                numbers.append(one[1])
            elif one[0] == 'name':
                numbers.append(value_in(one[1], names))
            elif one[0] == 'inner done':
                start = len(numbers) - len(inner_worths(one[1]))
                numbers[start:] = [self.made(one[1], numbers[start:])]
            else:
                if one[0] == 'call':
                    self.begin_call(one)
                ahead.append(('inner done', one))
                ahead.extend(inner_worths(one)[::-1])
        return numbers[0]

    def made(self, tree, numbers):
        """Return what a deed, a neg or a begun call makes of the numbers of the worths within it; BadRun."""
        if tree[0] == 'op':
            return by_deed(tree[1], numbers[0], numbers[1])
        if tree[0] == 'neg':
            return -numbers[0]
        row = self.defs[tree[1]]
        if len(numbers) != len(row[2]):
            raise BadRun(f'{tree[1]} is called with another count of worths')
        self.deep += 1
        try:
            given = self.carry(row[3], dict(zip(row[2], numbers)))
        finally:
            self.deep -= 1
        return 0 if given is None else given

    def begin_call(self, tree):
        """Use up a call's step, ahead of its worths; BadRun past forty deep, for no def and for no steps left."""
        if self.deep == DEEPEST:
            raise BadRun('calls more than forty deep')
        if tree[1] not in self.defs:
            raise BadRun(f'{tree[1]} is no def')
        self.spend()

    def call(self, tree, names):
        """Return what a call gives, nought for nothing: the inner names are its own; BadRun, forty deep at most."""
        # The worths within it may be calls again, as deep as it goes: so it is worked out as all worths are.
        return self.worth(tree, names)


def value_in(name, names):
    """Return a name's number in a table; BadRun."""
    if name not in names:
        raise BadRun(f'{name} is not set')
    return names[name]


def by_deed(deed, one, other):
    """Return what a deed makes of two numbers: one or nought for == and <; BadRun past thirty figures."""
    if deed == '==':
        return 1 if one == other else 0
    if deed == '<':
        return 1 if one < other else 0
    if deed == '+':
        found = one + other
    elif deed == '-':
        found = one - other
    else:
        found = one * other
    if abs(found) >= MOST:
        raise BadRun('a number past thirty figures')
    return found


def run(rows, most=1000):
    """Return (said numbers, names' table in order) of a program; BadRun, BadSize, BadTree."""
    done = Run(rows, most)
    done.carry(done.rows, done.names)
    return (tuple(done.said), {name: done.names[name] for name in sorted(done.names)})


def said(rows, most=1000):
    """Return (numbers said, whether it couldn't go on) of a program; BadSize, BadTree."""
    done = Run(rows, most)
    try:
        done.carry(done.rows, done.names)
    except BadRun:
        return (tuple(done.said), True)
    return (tuple(done.said), False)


def says_same(one, other, most=1000):
    """Tell whether two programs say the same and both can or can't go on; BadSize, BadTree."""
    return said(one, most) == said(other, most)


def steps_used(rows, most=1000):
    """Return how many steps a program uses; BadRun, BadSize, BadTree."""
    done = Run(rows, most)
    done.carry(done.rows, done.names)
    return most - done.left


def value_of(tree, names):
    """Return a worth's number over a table of names, calls refused; BadRun."""
    # A run of no program has no def, so it refuses each call.
    return Run(()).worth(tree, names)
