"""Runs: programs carried out, numbers whole, names unset refused, so many steps at most."""

from neatwright.errors import BadRun, BadSize
from neatwright.trees import check_program

MOST = 10 ** 30
# How many calls may be carried out one within another.
DEEPEST = 40


class Run:
    """A program that is carried out: what it said, its names, its defs and the steps left."""

    def __init__(self, rows, most=1000):
        if most < 0:
            raise BadSize('fewer steps than none')
        self.rows = check_program(rows)
        self.defs = {}
        self.names = {}
        self.said = []
        self.left = most
        self.deep = 0

    def spend(self):
        """Use up a step; BadRun for none left."""
        if self.left == 0:
            raise BadRun('no steps left')
        self.left -= 1

    def carry(self, rows, names):
        """Carry out steps over a table of names; tell what was given, None for nothing; BadRun."""
        for row in rows:
            self.spend()
            given = None
            if row[0] == 'set':
                names[row[1]] = self.worth(row[2], names)
            elif row[0] == 'say':
                self.said.append(self.worth(row[1], names))
            elif row[0] == 'give':
                given = self.worth(row[1], names)
            elif row[0] == 'def':
                self.defs[row[1]] = row
            else:
                given = self.branch(row, names)
            if given is not None:
                return given
        return None

    def branch(self, row, names):
        """Carry out an if or a while; tell what was given, None for nothing; BadRun."""
        if row[0] == 'if':
            return self.carry(row[2] if self.worth(row[1], names) != 0 else row[3], names)
        while self.worth(row[1], names) != 0:
            self.spend()
            given = self.carry(row[2], names)
            if given is not None:
                return given
        return None

    def worth(self, tree, names):
        """Return a worth's number over a table of names, the left ones first; BadRun."""
        deeds = []
        first = tree
        # Chains stand to the left in a tree, and may be long: they are gone down in a loop.
        while first[0] == 'op':
            deeds.append(first)
            first = first[2]
        found = self.single(first, names)
        for deed in deeds[::-1]:
            found = by_deed(deed[1], found, self.worth(deed[3], names))
        return found

    def single(self, tree, names):
        """Return the number of a worth that is no deed of two; BadRun."""
        if tree[0] == 'num':
            return tree[1]
        if tree[0] == 'neg':
            return -self.worth(tree[1], names)
        if tree[0] == 'call':
            return self.call(tree, names)
        if tree[1] not in names:
            raise BadRun(f'{tree[1]} is not set')
        return names[tree[1]]

    def call(self, tree, names):
        """Return what a call gives, nought for nothing: the inner names are its own; BadRun, forty deep at most."""
        if self.deep == DEEPEST:
            raise BadRun('calls more than forty deep')
        if tree[1] not in self.defs:
            raise BadRun(f'{tree[1]} is no def')
        row = self.defs[tree[1]]
        self.spend()
        values = [self.worth(worth, names) for worth in tree[2]]
        if len(values) != len(row[2]):
            raise BadRun(f'{tree[1]} is called with another count of worths')
        self.deep += 1
        try:
            given = self.carry(row[3], dict(zip(row[2], values)))
        finally:
            self.deep -= 1
        return 0 if given is None else given


def by_deed(deed, one, other):
    """Return what a deed makes of two numbers: one or nought for == and <; BadRun past thirty figures."""
    if deed == '==':
        return 1 if one == other else 0
    if deed == '<':
        return 1 if one < other else 0
    if deed == '+':
        found = one + other
    elif deed == '-':
        found = one - other
    else:
        found = one * other
    if abs(found) >= MOST:
        raise BadRun('a number past thirty figures')
    return found


def run(rows, most=1000):
    """Return (said numbers, names' table in order) of a program; BadRun, BadSize, BadTree."""
    done = Run(rows, most)
    done.carry(done.rows, done.names)
    return (tuple(done.said), {name: done.names[name] for name in sorted(done.names)})


def said(rows, most=1000):
    """Return (numbers said, whether it couldn't go on) of a program; BadSize, BadTree."""
    done = Run(rows, most)
    try:
        done.carry(done.rows, done.names)
    except BadRun:
        return (tuple(done.said), True)
    return (tuple(done.said), False)


def says_same(one, other, most=1000):
    """Tell whether two programs say the same and both can or can't go on; BadSize, BadTree."""
    return said(one, most) == said(other, most)


def steps_used(rows, most=1000):
    """Return how many steps a program uses; BadRun, BadSize, BadTree."""
    done = Run(rows, most)
    done.carry(done.rows, done.names)
    return most - done.left


def value_of(tree, names):
    """Return a worth's number over a table of names, calls refused; BadRun."""
    # A run of no program has no def, so it refuses each call.
    return Run(()).worth(tree, names)
