"""Scopes: the names that are set and read, outside and in each def, and what each def calls."""

from neatwright.errors import NoSuch
from neatwright.trees import all_steps, all_worths, calls_in, names_in, worths_of


def defs_of(rows):
    """Return a table of defs' names to their steps, as they stand."""
    return {row[1]: row for row in rows if row[0] == 'def'}


def scope_rows(rows, scope):
    """Return the steps of a scope: a def's name, or a bare word for the outer one, without defs; NoSuch."""
    if scope == '':
        return tuple([row for row in rows if row[0] != 'def'])
    there = defs_of(rows)
    if scope not in there:
        raise NoSuch('no such scope')
    return there[scope][3]


def params_of(rows, scope):
    """Return a scope's params, none for the outer one; NoSuch."""
    scope_rows(rows, scope)
    return () if scope == '' else defs_of(rows)[scope][2]


def scopes_of(rows):
    """Return the scopes: the outer one, then defs as they stand."""
    return ('',) + tuple(defs_of(rows))


def scope_mapped(rows, scope, deed):
    """Return a program with a scope's steps as a function makes them of rows of them; its defs stay in their places."""
    found = []
    for row in rows:
        if row[0] == 'def':
            found.append(row[:3] + (tuple(deed(row[3])),) if row[1] == scope else row)
        else:
            found.extend(deed((row,)) if scope == '' else (row,))
    return tuple(found)


def own_worths(rows):
    """Return the outermost worths of steps and of all within them."""
    return [tree for row in all_steps(rows) for tree in worths_of(row)]


def in_order(names):
    """Return names by their letters, each once."""
    return tuple(sorted(set(names)))


def set_names(rows):
    """Return the names that steps and all within them set, as often as they do."""
    return [row[1] for row in all_steps(rows) if row[0] == 'set']


def sets_in(rows):
    """Return the names that steps set, each once, in order."""
    return in_order(set_names(rows))


def reads_in(rows):
    """Return the names that steps read, each once, in order."""
    return in_order([name for tree in own_worths(rows) for name in names_in(tree)])


def names_of(rows, scope):
    """Return all names of a scope: params, set and read ones, in order; NoSuch."""
    steps = scope_rows(rows, scope)
    return in_order(params_of(rows, scope) + sets_in(steps) + reads_in(steps))


def counts_of(rows, scope):
    """Return a table of a scope's names to (how often set, how often read), in order; NoSuch."""
    steps = scope_rows(rows, scope)
    sets = set_names(steps)
    reads = [one[1] for tree in own_worths(steps) for one in all_worths(tree) if one[0] == 'name']
    return {name: (sets.count(name), reads.count(name)) for name in names_of(rows, scope)}


def calls_of(rows, scope):
    """Return the names that a scope calls, each once, in order; NoSuch."""
    return in_order([name for tree in own_worths(scope_rows(rows, scope)) for name in calls_in(tree)])


def reached(rows, scope):
    """Return the defs that a scope comes to by calls, in order; NoSuch."""
    there = defs_of(rows)
    found = {}
    waiting = list(calls_of(rows, scope))
    while waiting != []:
        name = waiting.pop()
        if name in there and name not in found:
            found[name] = True
            waiting.extend(calls_of(rows, name))
    return in_order(list(found))


def rings(rows):
    """Return the defs that come to themselves by calls, in order."""
    return in_order([name for name in defs_of(rows) if name in reached(rows, name)])


def unmade(rows):
    """Return the names that are called and not defs, in order."""
    there = defs_of(rows)
    called = [name for scope in scopes_of(rows) for name in calls_of(rows, scope)]
    return in_order([name for name in called if name not in there])


def fresh_name(rows, scope, base):
    """Return a name not in a scope: a base, or it and the first number from two on; NoSuch."""
    there = names_of(rows, scope)
    name = base
    number = 1
    while name in there:
        number += 1
        name = f'{base}{number}'
    return name
