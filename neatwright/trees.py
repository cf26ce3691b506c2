"""Trees: programs as rows of ("set", ..), ("say", ..), ("if", ..), ("while", ..), ("def", ..) and ("give", ..)."""

from neatwright.errors import BadTree, NoSuch
from neatwright.signs import is_name

DEEDS = ('==', '<', '+', '-', '*')


def is_worth(tree):
    """Tell whether a tree is a number, name, deed of two, neg or call."""
    # A list of what is still to be asked, as a long chain of deeds is a deep tree.
    waiting = [tree]
    while waiting != []:
        one = waiting.pop()
        if not has_worth_form(one):
            return False
        waiting.extend(inner_worths(one))
    return True


def has_worth_form(tree):
    """Tell whether a tree has a worth's form, whatever stands in the place of worths within it."""
    if not isinstance(tree, tuple) or tree == ():
        return False
    if tree[0] == 'num':
        return len(tree) == 2 and is_count(tree[1])
    if tree[0] == 'name':
        return len(tree) == 2 and is_name(tree[1])
    if tree[0] == 'op':
        return len(tree) == 4 and tree[1] in DEEDS
    if tree[0] == 'neg':
        return len(tree) == 2
    return tree[0] == 'call' and len(tree) == 3 and is_name(tree[1]) and isinstance(tree[2], tuple)


def is_count(value):
    """Tell whether a value is a number as the language writes it: whole, and not below nought."""
    return isinstance(value, int) and not isinstance(value, bool) and value >= 0


def is_step(tree, inside):
    """Tell whether a tree is a step; give stands inside a def alone, a def outside alone."""
    waiting = [(tree, inside)]
    while waiting != []:
        row, within = waiting.pop()
        if not has_step_form(row, within):
            return False
        deeper = within or row[0] == 'def'
        waiting.extend([(step, deeper) for lot in blocks_of(row) for step in lot])
    return not inner_def(tree)


def has_step_form(tree, inside):
    """Tell whether a tree has a step's form, whatever stands in its blocks."""
    if not isinstance(tree, tuple) or tree == ():
        return False
    if tree[0] == 'set':
        return len(tree) == 3 and is_name(tree[1]) and is_worth(tree[2])
    if tree[0] == 'say':
        return len(tree) == 2 and is_worth(tree[1])
    if tree[0] == 'give':
        return inside and len(tree) == 2 and is_worth(tree[1])
    if tree[0] == 'if':
        return len(tree) == 4 and is_worth(tree[1]) and isinstance(tree[2], tuple) and isinstance(tree[3], tuple)
    if tree[0] == 'while':
        return len(tree) == 3 and is_worth(tree[1]) and isinstance(tree[2], tuple)
    return tree[0] == 'def' and not inside and has_def_form(tree)


def has_def_form(tree):
    """Tell whether a tree that begins with "def" has a def's form, whatever stands in its block."""
    if len(tree) != 4 or not is_name(tree[1]):
        return False
    params = tree[2]
    if not isinstance(params, tuple) or not all([is_name(param) for param in params]):
        return False
    return len(set(params)) == len(params) and isinstance(tree[3], tuple)


def are_steps(rows, inside):
    """Tell whether all of a row are steps, none a def but in the outermost."""
    return isinstance(rows, (list, tuple)) and all([is_step(row, inside) for row in rows])


def check_program(rows):
    """Return a program: steps, defs outermost alone, none of a name twice; BadTree."""
    if not are_steps(rows, False):
        raise BadTree('what is no row of steps, or a def that is not outermost')
    names = [row[1] for row in rows if row[0] == 'def']
    if len(set(names)) != len(names):
        raise BadTree('a def twice')
    return tuple(rows)


def inner_def(row):
    """Tell whether a def stands within a step."""
    return any([step[0] == 'def' for lot in blocks_of(row) for step in all_steps(lot)])


def blocks_of(row):
    """Return the rows of steps within a step, in order."""
    if row[0] == 'def':
        return row[3:]
    if row[0] in ('if', 'while'):
        return row[2:]
    return ()


def with_blocks(row, lots):
    """Return a step with other rows of steps within it."""
    ahead = len(row) - len(blocks_of(row))
    return row[:ahead] + tuple([tuple(lot) for lot in lots])


def worths_of(row):
    """Return the outermost worths of a step itself, in order."""
    if row[0] == 'def':
        return ()
    return (row[worth_place(row)],)


def with_worths(row, worths):
    """Return a step with other outermost worths."""
    if row[0] == 'def':
        return row
    place = worth_place(row)
    return row[:place] + tuple(worths) + row[place + 1:]


def worth_place(row):
    """Return the place of the worth in a step that has one: a set has its name ahead of it."""
    return 2 if row[0] == 'set' else 1


def inner_worths(tree):
    """Return the worths within a worth itself, in order."""
    if tree[0] == 'op':
        return tree[2:]
    if tree[0] == 'neg':
        return tree[1:]
    if tree[0] == 'call':
        return tree[2]
    return ()


def with_inner(tree, worths):
    """Return a worth with other worths within it."""
    if tree[0] == 'op':
        return tree[:2] + tuple(worths)
    if tree[0] == 'neg':
        return tree[:1] + tuple(worths)
    if tree[0] == 'call':
        return tree[:2] + (tuple(worths),)
    return tree


def rebuilt(tree, deed):
    """Return a worth put together again, each worth in it, those within it first, as a function makes it."""
    done = []
    # Each worth comes up twice: ahead of those within it, and behind them, when they stand last in what is done.
    waiting = [(tree, False)]
    while waiting != []:
        one, ready = waiting.pop()
        inner = inner_worths(one)
        if ready:
            start = len(done) - len(inner)
            done[start:] = [deed(with_inner(one, done[start:]))]
        else:
            waiting.append((one, True))
            waiting.extend([(part, False) for part in inner[::-1]])
    return done[0]


def all_worths(tree):
    """Return a worth and all within it, each ahead of those within it."""
    found = []
    waiting = [tree]
    while waiting != []:
        one = waiting.pop()
        found.append(one)
        # What is put in last is taken next: so the first one within goes in last.
        waiting.extend(inner_worths(one)[::-1])
    return found


def all_steps(rows):
    """Return all steps of rows and within them, each ahead of those within it."""
    found = []
    waiting = list(rows)[::-1]
    while waiting != []:
        row = waiting.pop()
        found.append(row)
        for lot in blocks_of(row)[::-1]:
            waiting.extend(lot[::-1])
    return found


def names_in(tree):
    """Return the names that a worth reads, each once, in order; calls' names aside."""
    return tuple(sorted(set([one[1] for one in all_worths(tree) if one[0] == 'name'])))


def calls_in(tree):
    """Return the names that a worth calls, each once, in order."""
    return tuple(sorted(set([one[1] for one in all_worths(tree) if one[0] == 'call'])))


def mapped(rows, deed):
    """Return rows with each outermost worth as a function makes it."""
    found = []
    for row in rows:
        worths = [deed(tree) for tree in worths_of(row)]
        lots = [mapped(lot, deed) for lot in blocks_of(row)]
        found.append(with_blocks(with_worths(row, worths), lots))
    return tuple(found)


def at_way(rows, way):
    """Return the step at a way: places in rows, (place, block, place, ..); NoSuch."""
    if len(way) % 2 == 0:
        raise NoSuch('no way: it does not end with a place')
    here = rows
    for number in range(0, len(way) - 1, 2):
        lots = blocks_of(step_at(here, way[number]))
        if not 0 <= way[number + 1] < len(lots):
            raise NoSuch('no block')
        here = lots[way[number + 1]]
    return step_at(here, way[-1])


def step_at(rows, place):
    """Return the step at a place of a row; NoSuch."""
    if not 0 <= place < len(rows):
        raise NoSuch('no step')
    return rows[place]


def put_at(rows, way, steps):
    """Return rows with the step at a way exchanged for steps; NoSuch."""
    at_way(rows, way)
    place = way[0]
    new = tuple(steps)
    if len(way) > 1:
        lots = list(blocks_of(rows[place]))
        lots[way[1]] = put_at(lots[way[1]], way[2:], steps)
        new = (with_blocks(rows[place], lots),)
    return tuple(rows[:place]) + new + tuple(rows[place + 1:])


def all_ways(rows, head=()):
    """Return the ways of all steps of rows and within them, each ahead of those within it."""
    found = []
    for place, row in enumerate(rows):
        way = tuple(head) + (place,)
        found.append(way)
        for block, lot in enumerate(blocks_of(row)):
            found.extend(all_ways(lot, way + (block,)))
    return found


def size(tree):
    """Return how many worths a worth has, itself too."""
    return len(all_worths(tree))


def same_worth(one, other):
    """Tell whether two worths are the same."""
    # Python goes one call deeper for each row within a row that it compares; a long chain of deeds is too deep for it.
    waiting = [(one, other)]
    while waiting != []:
        mine, its = waiting.pop()
        if head_of(mine) != head_of(its):
            return False
        waiting.extend(list(zip(inner_worths(mine), inner_worths(its))))
    return True


def head_of(tree):
    """Return what a worth is but for the worths within it, and how many they are."""
    return (with_inner(tree, ()), len(inner_worths(tree)))
