"""Renames: names and defs called otherwise, where nothing else is meant by the new name."""

from neatwright.errors import BadChange, NoSuch
from neatwright.scopes import defs_of, names_of, scope_mapped, scopes_of
from neatwright.signs import check_name
from neatwright.trees import blocks_of, calls_in, check_program, mapped, names_in, rebuilt, with_blocks


def renamed(rows, scope, old, new):
    """Return a program with a scope's name called otherwise; NoSuch for no name, BadChange for one there, BadSign."""
    check_name(new)
    program = check_program(rows)
    there = names_of(program, scope)
    if old not in there:
        raise NoSuch('no such name in the scope')
    if new != old and new in there:
        raise BadChange('the new name is in the scope')
    found = scope_mapped(program, scope, lambda steps: in_steps(steps, old, new))
    return tuple([with_param(row, old, new) if row[:2] == ('def', scope) else row for row in found])


def with_param(row, old, new):
    """Return a def with a param called otherwise, if it has it."""
    params = tuple([new if param == old else param for param in row[2]])
    return row[:2] + (params,) + row[3:]


def in_steps(rows, old, new):
    """Return steps with a name called otherwise."""
    steps = [set_otherwise(row, old, new) for row in rows]
    return mapped(steps, lambda tree: in_worth(tree, old, new))


def set_otherwise(row, old, new):
    """Return a step, and those within it, that set a name otherwise."""
    if row[:2] == ('set', old):
        return ('set', new) + row[2:]
    return with_blocks(row, [[set_otherwise(step, old, new) for step in lot] for lot in blocks_of(row)])


def in_worth(tree, old, new):
    """Return a worth that reads a name otherwise."""
    return rebuilt(tree, lambda one: ('name', new) if one == ('name', old) else one)


def renamed_def(rows, old, new):
    """Return a program with a def and its calls called otherwise; NoSuch, BadChange for a name there, BadSign."""
    check_name(new)
    program = check_program(rows)
    there = defs_of(program)
    if old not in there:
        raise NoSuch('no such def')
    if new != old and (new in there or new in all_calls(program)):
        raise BadChange('the new name is a def, or is called')
    found = mapped(program, lambda tree: call_otherwise(tree, old, new))
    return tuple([('def', new) + row[2:] if row[:2] == ('def', old) else row for row in found])


def call_otherwise(tree, old, new):
    """Return a worth that calls a def otherwise."""
    return rebuilt(tree, lambda one: ('call', new) + one[2:] if one[:2] == ('call', old) else one)


def all_calls(rows):
    """Return a table of the names that a program calls."""
    found = {}
    mapped(rows, lambda tree: mark_calls(tree, found))
    return found


def mark_calls(tree, found):
    """Put a worth's calls in a table; return the worth."""
    for name in calls_in(tree):
        found[name] = True
    return tree


def params_moved(rows, name, order):
    """Return a program with a def's params, and its calls' worths, in another order.

    BadChange where a call has another count or isn't quiet, NoSuch.
    """
    program = check_program(rows)
    there = defs_of(program)
    if name not in there:
        raise NoSuch('no such def')
    if sorted(order) != list(range(len(there[name][2]))):
        raise BadChange("what is no order of the def's params")
    found = mapped(program, lambda tree: call_moved(tree, name, order))
    return tuple([with_params_moved(row, order) if row[:2] == ('def', name) else row for row in found])


def with_params_moved(row, order):
    """Return a def with its params in another order."""
    return row[:2] + (tuple([row[2][place] for place in order]),) + row[3:]


def call_moved(tree, name, order):
    """Return a worth whose calls of a def have their worths in another order; BadChange."""
    return rebuilt(tree, lambda one: worths_moved(one, order) if one[:2] == ('call', name) else one)


def worths_moved(tree, order):
    """Return a call with its worths in another order; BadChange."""
    inner = tree[2]
    # The left worths come first in a run: those that call or read names could be refused, or say, in another order.
    if len(inner) != len(order) or any([not is_quiet(one) for one in inner]):
        raise BadChange("a call with another count of worths, or with worths that aren't quiet")
    return tree[:2] + (tuple([inner[place] for place in order]),)


def is_quiet(tree):
    """Tell whether a worth calls nothing and reads no name."""
    return calls_in(tree) == () and names_in(tree) == ()


def all_renames(rows, scope):
    """Return the (old, new) pairs of a scope's names that may be called by others of the program, in order; NoSuch."""
    mine = names_of(rows, scope)
    others = sorted(set([name for one in scopes_of(rows) for name in names_of(rows, one) if name not in mine]))
    return tuple([(old, new) for old in mine for new in others])
