"""Lints: what is likely a slip in a program, each told with its kind and place, in order."""

from neatwright.flows import idle_sets, unreached, unsure_reads
from neatwright.folds import is_number
from neatwright.scopes import calls_of, counts_of, defs_of, params_of, reached, scope_rows, scopes_of
from neatwright.trees import all_ways, all_worths, at_way, check_program, same_worth, worths_of

KINDS = ('unset', 'idle', 'unread', 'uncalled', 'no def', 'count', 'fixed test', 'same', 'unreached', 'self')
# The deeds that tell nothing of one worth twice.
TELLING = ('==', '<', '-')


def lints(rows):
    """Return the (kind, scope, place) of all slips: places are ways in the scope's steps, or names; BadTree."""
    program = check_program(rows)
    found = []
    for scope in scopes_of(program):
        found.extend([(kind, scope, place) for kind, place in scope_slips(program, scope)])
    there = reached(program, '')
    found.extend([('uncalled', name, name) for name in defs_of(program) if name not in there])
    return tuple(sorted(found, key=lambda slip: (KINDS.index(slip[0]), slip[1], place_key(slip[2]))))


def scope_slips(rows, scope):
    """Return the (kind, place) of a scope's slips; NoSuch."""
    steps = scope_rows(rows, scope)
    found = [('unset', way + (name,)) for way, name in unsure_reads(rows, scope)]
    found.extend([('idle', way) for way in idle_sets(rows, scope)])
    found.extend([('unread', name) for name in unread_params(rows, scope)])
    found.extend([('unreached', way) for way in unreached(steps)])
    for way in all_ways(steps):
        found.extend([(kind, way) for kind in step_slips(rows, at_way(steps, way))])
    return found


def place_key(place):
    """Return by what places stand in order: the way's numbers, then the name, bare for none."""
    if isinstance(place, str):
        return ((), place)
    if len(place) > 0 and isinstance(place[-1], str):
        return (tuple(place[:-1]), place[-1])
    return (tuple(place), '')


def unread_params(rows, scope):
    """Return a scope's params that nothing reads, as they stand; NoSuch."""
    often = counts_of(rows, scope)
    return tuple([name for name in params_of(rows, scope) if often[name][1] == 0])


def step_slips(rows, step):
    """Return the kinds of slips in a step itself: no def, count, fixed test, same, self; each once."""
    there = defs_of(rows)
    worths = [one for tree in worths_of(step) for one in all_worths(tree)]
    calls = [one for one in worths if one[0] == 'call']
    found = {
        'no def': any([one[1] not in there for one in calls]),
        'count': any([one[1] in there and len(one[2]) != len(there[one[1]][2]) for one in calls]),
        'fixed test': step[0] in ('if', 'while') and is_number(step[1]),
        'same': any([is_same_twice(one) for one in worths]),
        'self': step[0] == 'set' and step[2] == ('name', step[1]),
    }
    return tuple([kind for kind in KINDS if found.get(kind, False)])


def is_same_twice(tree):
    """Tell whether a worth is a ==, < or - of one worth twice that is no call itself."""
    # A call may give another number, or say something, each time.
    return tree[0] == 'op' and tree[1] in TELLING and tree[2][0] != 'call' and same_worth(tree[2], tree[3])


def counts(rows):
    """Return a table of kinds to how many slips there are, those that are there alone, in the kinds' order; BadTree."""
    found = [slip[0] for slip in lints(rows)]
    return {kind: found.count(kind) for kind in KINDS if kind in found}


def without_uncalled(rows):
    """Return a program without defs that nothing comes to; BadTree."""
    program = check_program(rows)
    there = reached(program, '')
    return tuple([row for row in program if row[0] != 'def' or row[1] in there])


def is_clean(rows):
    """Tell whether a program has no slips; BadTree."""
    return lints(rows) == ()


def callers(rows, name):
    """Return the scopes that call a name, the outer one first."""
    return tuple([scope for scope in scopes_of(rows) if name in calls_of(rows, scope)])
