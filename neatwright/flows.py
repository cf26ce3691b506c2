"""Flows: which names are surely set where they are read, which sets are read, and which steps can be come to."""

from neatwright.errors import BadSize
from neatwright.folds import ends
from neatwright.scopes import params_of, scope_rows
from neatwright.trees import blocks_of, names_in, worths_of

MOST_ROUNDS = 3


class Flow:
    """The reads of names that may be unset, (way, name), and the names surely set behind all steps."""

    def __init__(self, rows, names):
        self.unsure = []
        self.behind = self.go(rows, {name: True for name in names}, ())

    def go(self, rows, names, head):
        """Return the names surely set behind steps, None where none comes there; mark the reads that may be unset."""
        here = dict(names)
        for place, row in enumerate(rows):
            here = self.behind_step(row, here, tuple(head) + (place,))
            # What stands behind a give is on no way, so nothing in it is marked.
            if here is None:
                return None
        return here

    def reads(self, row, names, way):
        """Mark the names that a step's own worths read and that may be unset."""
        self.unsure.extend([(tuple(way), name) for name in own_reads(row) if name not in names])

    def behind_step(self, row, names, way):
        """Return the names surely set behind a step, None where none comes there; what is read is set from there on."""
        self.reads(row, names, way)
        # A read of an unset name can't be gone past.
        here = put_together(names, {name: True for name in own_reads(row)})
        if row[0] == 'give':
            return None
        if row[0] == 'set':
            here[row[1]] = True
        if row[0] == 'if':
            one, other = [self.go(lot, here, tuple(way) + (block,)) for block, lot in enumerate(row[2:])]
            return in_both(one, other)
        if row[0] == 'while':
            # There may be no round, so what is set in one doesn't count behind it.
            self.go(row[2], here, tuple(way) + (0,))
        return here


def own_reads(row):
    """Return the names that a step's own worths read, each once, in order."""
    return tuple(sorted(set([name for tree in worths_of(row) for name in names_in(tree)])))


def put_together(one, other):
    """Return a table of the names of two tables."""
    found = {name: True for name in one}
    for name in other:
        found[name] = True
    return found


def in_both(one, other):
    """Return a table of the names that two tables have in common; None for a table is where none comes to."""
    if one is None:
        return other
    if other is None:
        return one
    return {name: True for name in one if name in other}


def flow_of(rows, scope):
    """Return the flow of a scope, its params set; NoSuch."""
    return Flow(scope_rows(rows, scope), params_of(rows, scope))


def unsure_reads(rows, scope):
    """Return the (way in the scope's steps, name) reads that may be unset on some way, in order; NoSuch."""
    return tuple(flow_of(rows, scope).unsure)


def surely_set_behind(rows, scope):
    """Return the names surely set behind a scope's steps, in order, None where none comes there; NoSuch."""
    behind = flow_of(rows, scope).behind
    return None if behind is None else tuple(sorted(behind))


def read_behind(rows, names):
    """Return the names read on some way from steps on, where some are read behind them, in order."""
    return tuple(sorted(read_ahead_of_all(rows, {name: True for name in names})))


def read_ahead_of_all(rows, behind):
    """Return a table of the names read on some way from steps on, by those read behind them."""
    return reads_between(rows, behind)[0]


def reads_between(rows, behind):
    """Return tables of the names read on some way from each place of a row of steps on, the last one behind them."""
    found = [{name: True for name in behind}]
    for row in rows[::-1]:
        found.append(read_ahead_of(row, found[-1]))
    return found[::-1]


def read_ahead_of(row, behind):
    """Return a table of the names read on some way from a step on, by those read behind it."""
    reads = {name: True for name in own_reads(row)}
    if row[0] == 'give':
        return reads
    if row[0] == 'set':
        return put_together(reads, {name: True for name in behind if name != row[1]})
    found = put_together(reads, {} if row[0] == 'if' else behind)
    if row[0] == 'if':
        for lot in row[2:]:
            found = put_together(found, read_ahead_of_all(lot, behind))
    if row[0] == 'while':
        # A second round reads nothing that the first one and what is behind don't: so one going is enough.
        found = put_together(found, read_ahead_of_all(row[2], found))
    return found


def idle_sets(rows, scope):
    """Return the ways, in the scope's steps, of sets come to whose worth is read on no way, in order; NoSuch."""
    found = []
    idle_in(scope_rows(rows, scope), {}, (), found)
    return tuple(found)


def idle_in(rows, behind, head, found):
    """Put in found, a list, the ways of steps' sets that are read on no way, where some names are read behind them."""
    between = reads_between(rows, behind)
    for place, row in enumerate(rows):
        way = tuple(head) + (place,)
        after = between[place + 1]
        if row[0] == 'set' and row[1] not in after:
            found.append(way)
        if row[0] == 'if':
            for block, lot in enumerate(row[2:]):
                idle_in(lot, after, way + (block,), found)
        if row[0] == 'while':
            # Behind a round comes the while's test again, and all that may be read from there on.
            idle_in(row[2], between[place], way + (0,), found)
        # What stands behind, and all within it, is on no way: no set there is come to.
        if ends(row):
            return


def unreached(rows):
    """Return the ways of steps that stand behind ones that surely give, in order."""
    found = []
    unreached_in(rows, (), found)
    return found


def unreached_in(rows, head, found):
    """Put in found, a list, the ways of steps that stand behind one of their own row that surely gives."""
    past = False
    for place, row in enumerate(rows):
        way = head + (place,)
        if past:
            found.append(way)
        for block, lot in enumerate(blocks_of(row)):
            unreached_in(lot, way + (block,), found)
        past = past or ends(row)


def all_paths(rows, rounds):
    """Return all ways through steps, so many rounds of each while at most; BadSize past three rounds.

    Each is ((("read" or "set", name), ..), whether it gives).
    """
    if not 0 <= rounds <= MOST_ROUNDS:
        raise BadSize('rounds below nought or past three')
    found = [((), False)]
    for row in rows:
        found = gone_on(found, step_paths(row, rounds))
    return found


def gone_on(paths, behind):
    """Return ways that each go on by each of those behind them, but for those that give."""
    found = []
    for marks, gives in paths:
        if gives:
            found.append((marks, gives))
        else:
            found.extend([(marks + more, last) for more, last in behind])
    return found


def step_paths(row, rounds):
    """Return all ways through a step."""
    here = tuple([('read', name) for name in own_reads(row)])
    if row[0] == 'set':
        return [(here + (('set', row[1]),), False)]
    if row[0] == 'if':
        return gone_on([(here, False)], [path for lot in row[2:] for path in all_paths(lot, rounds)])
    if row[0] == 'while':
        return round_paths(here, all_paths(row[2], rounds), rounds)
    return [(here, row[0] == 'give')]


def round_paths(test, inside, rounds):
    """Return all ways through a while by what its test reads and the ways through its steps, fewer rounds ahead."""
    last = [(test, False)]
    found = list(last)
    for _ in range(rounds):
        going = [path for path in last if not path[1]]
        last = gone_on(gone_on(going, inside), [(test, False)])
        found.extend(last)
    return found
