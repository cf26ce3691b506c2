"""Measures: how deep, long and branched a program is, and which parts of it stand twice."""

from neatwright.errors import BadSize
from neatwright.reads import told_plain, told_worth
from neatwright.scopes import own_worths, scope_rows
from neatwright.trees import all_steps, all_worths, blocks_of, size


def depth(rows):
    """Return how many blocks stand one in another at most, nought for none."""
    return max([1 + depth(lot) for row in rows for lot in blocks_of(row)], default=0)


def branches(rows):
    """Return how many ways lead through steps without going round: one, and one more for each if and while."""
    return 1 + len([row for row in all_steps(rows) if row[0] in ('if', 'while')])


def weight(rows):
    """Return how many steps and worths there are in all."""
    return len(all_steps(rows)) + sum([size(tree) for tree in own_worths(rows)])


def kinds(rows):
    """Return a table of steps' kinds to how many there are, in order of the words."""
    return counted([row[0] for row in all_steps(rows)])


def deeds(rows):
    """Return a table of deeds to how many there are, in the order of their texts."""
    return counted([one[1] for one in every_worth(rows) if one[0] == 'op'])


def counted(words):
    """Return a table of words, in order, to how often they stand in a row of words."""
    return {word: words.count(word) for word in sorted(set(words))}


def every_worth(rows):
    """Return all worths of steps and of all within them, as they stand."""
    return [one for tree in own_worths(rows) for one in all_worths(tree)]


def twice(rows, least):
    """Return the worths of so many worths or more that stand twice or more, (worth, how often), the first ones ahead.

    BadSize below one.
    """
    if least < 1:
        raise BadSize('worths of fewer worths than one')
    great = [one for one in every_worth(rows) if size(one) >= least]
    found = alike_lots(great, [told_worth(one) for one in great])
    return tuple([(lot[0], len(lot)) for lot in found if len(lot) > 1])


def alike_lots(things, texts):
    """Return things in lots of those that are told by one text, the first ones ahead."""
    # A tree may be too deep to be looked up in a table by itself; its text tells it from all others.
    found = {}
    for thing, text in zip(things, texts):
        found.setdefault(text, []).append(thing)
    return list(found.values())


def runs_twice(rows, count):
    """Return the rows of so many steps that stand twice or more, the first ones ahead; BadSize below one."""
    if count < 1:
        raise BadSize('rows of fewer steps than one')
    runs = []
    for lot in all_lots(rows):
        runs.extend([tuple(lot[start:start + count]) for start in range(len(lot) - count + 1)])
    found = alike_lots(runs, [told_plain(steps) for steps in runs])
    return tuple([lot[0] for lot in found if len(lot) > 1])


def all_lots(rows):
    """Return a row of steps and all within it, each ahead of those within it."""
    found = [tuple(rows)]
    for row in rows:
        for lot in blocks_of(row):
            found.extend(all_lots(lot))
    return found


def widest(rows):
    """Return the size of the greatest worth, nought for none."""
    return max([size(tree) for tree in own_worths(rows)], default=0)


def scope_measures(rows, scope):
    """Return (steps, depth, branches, weight) of a scope; NoSuch."""
    steps = scope_rows(rows, scope)
    return (len(all_steps(steps)), depth(steps), branches(steps), weight(steps))


def row_widths(text):
    """Return (rows, the widest row) of a text, the last row's end no row of its own."""
    rows = text.split('\n')
    if rows[-1] == '':
        rows.pop()
    return (len(rows), max([len(row) for row in rows], default=0))
