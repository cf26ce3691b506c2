"""Moves: worths taken out under a name and put in again, ifs turned, where the meaning stays."""

from neatwright.errors import BadChange, NoSuch
from neatwright.scopes import counts_of, names_of, own_worths, params_of, scope_mapped, scope_rows, set_names
from neatwright.signs import check_name
from neatwright.trees import (all_steps, all_worths, at_way, blocks_of, calls_in, check_program, inner_worths, mapped,
                              names_in, put_at, rebuilt, with_blocks, with_inner, with_worths, worths_of)

# Numbers below it have fourteen figures at most, so that one deed of two of them stays below thirty.
SMALL_NUMBERS = 10 ** 14
NOUGHT = ('num', 0)


def scope_of(rows, way):
    """Return the scope of the step at a way, a def's own for the def itself; NoSuch."""
    at_way(rows, way)
    outermost = rows[way[0]]
    return outermost[1] if outermost[0] == 'def' else ''


def worth_at(tree, path):
    """Return the worth within a worth by places, one in another; NoSuch."""
    return worths_along(tree, path)[-1]


def worths_along(tree, path):
    """Return a worth and those within it to which places lead, one in another; NoSuch."""
    found = [tree]
    for place in path:
        inner = inner_worths(found[-1])
        if not 0 <= place < len(inner):
            raise NoSuch('no worth there')
        found.append(inner[place])
    return found


def put_worth(tree, path, new):
    """Return a worth with the one by places exchanged; NoSuch."""
    above = worths_along(tree, path)[:-1]
    found = new
    for one, place in zip(above[::-1], path[::-1]):
        inner = inner_worths(one)
        found = with_inner(one, inner[:place] + (found,) + inner[place + 1:])
    return found


def taken_out(rows, way, path, name):
    """Return a program in which a worth of a step is set ahead under a new name.

    BadChange for a while's, where a step calls, or for a name there, BadSign, NoSuch.
    """
    check_name(name)
    program = check_program(rows)
    step = at_way(program, way)
    # A while's worth is asked for anew each round, and a call may say something, or not come back.
    if worths_of(step) == () or step[0] == 'while' or calls_in(worths_of(step)[0]) != ():
        raise BadChange('a step of which no worth can be taken out')
    if name in names_of(program, scope_of(program, way)):
        raise BadChange('the name is in the scope')
    tree = worths_of(step)[0]
    ahead = ('set', name, worth_at(tree, path))
    return put_at(program, way, (ahead, with_worths(step, (put_worth(tree, path, ('name', name)),))))


def put_in(rows, scope, name):
    """Return a program in which a name's one worth stands where it's read.

    BadChange unless it is set once, in the own row of the scope, ahead of all reads, can't fail, and reads nothing
    that is set behind it; NoSuch.
    """
    program = check_program(rows)
    steps = scope_rows(program, scope)
    if name not in counts_of(program, scope) or name in params_of(program, scope):
        raise NoSuch('no such name in the scope, or a param')
    places = [place for place, row in enumerate(steps) if row[:2] == ('set', name)]
    if len(places) != 1 or counts_of(program, scope)[name][0] != 1:
        raise BadChange("a name that isn't set once, in the scope's own row")
    place = places[0]
    worth = steps[place][2]
    mine = names_in(worth)
    if any([name in names_in(tree) for tree in own_worths(steps[:place + 1])]):
        raise BadChange('a name that is read ahead of its set')
    if any([one in mine for one in set_names(steps[place:])]):
        raise BadChange('a worth that reads what is set behind it')
    if not is_sure(worth) or any([one not in surely_set(program, scope, place) for one in mine]):
        raise BadChange('a worth that may fail')
    return scope_mapped(program, scope, lambda lot: read_steps(lot, name, worth))


def read_steps(steps, name, worth):
    """Return steps with a worth in a name's place, those that set the name left out."""
    return mapped(without_sets(steps, name), lambda tree: read_otherwise(tree, name, worth))


def without_sets(steps, name):
    """Return steps, and those within them, without those that set a name."""
    kept = [row for row in steps if row[:2] != ('set', name)]
    return [with_blocks(row, [without_sets(lot, name) for lot in blocks_of(row)]) for row in kept]


def is_sure(tree):
    """Tell whether a worth of set names can't fail: numbers and names, turned about, and one deed of small numbers."""
    here = tree
    while here[0] == 'neg':
        here = here[1]
    if here[0] == 'op':
        return names_in(here) == () and calls_in(here) == () and all_small(here)
    return here[0] in ('num', 'name')


def surely_set(rows, scope, place):
    """Return the names surely set ahead of a place of a scope's own row: params and those set in it."""
    ahead = scope_rows(rows, scope)[:place]
    return tuple(sorted(set(list(params_of(rows, scope)) + [row[1] for row in ahead if row[0] == 'set'])))


def read_otherwise(tree, name, worth):
    """Return a worth with another in a name's place."""
    return rebuilt(tree, lambda one: worth if one == ('name', name) else one)


def turned_if(rows, way):
    """Return a program in which an if's two rows are exchanged, its test held against nought; NoSuch, BadChange."""
    program = check_program(rows)
    step = at_way(program, way)
    if step[0] != 'if':
        raise BadChange('no if')
    return put_at(program, way, (('if', turned_test(step[1]), step[3], step[2]),))


def turned_test(tree):
    """Return a test that holds where another doesn't: a test against nought turned back where it is one itself."""
    if tree[:2] == ('op', '==') and tree[3] == NOUGHT and is_test(tree[2]):
        return tree[2]
    return ('op', '==', tree, NOUGHT)


def is_test(tree):
    """Tell whether a worth is one or nought: a == or a <."""
    return tree[:2] in (('op', '=='), ('op', '<'))


def exchanged(rows, way):
    """Return a program in which a step and the next of its row are exchanged.

    BadChange unless both set unlike names by worths without names that can't fail, NoSuch.
    """
    program = check_program(rows)
    one = at_way(program, way)
    behind = tuple(way[:-1]) + (way[-1] + 1,)
    other = at_way(program, behind)
    if one[0] != 'set' or other[0] != 'set' or one[1] == other[1]:
        raise BadChange('what are not two sets of unlike names')
    if any([names_in(row[2]) != () or not is_sure(row[2]) for row in (one, other)]):
        raise BadChange('a worth that reads a name or may fail')
    return put_at(put_at(program, way, (other,)), behind, (one,))


def all_small(tree):
    """Tell whether a worth has one deed at most and all its numbers are below 10 ** 14, names aside."""
    worths = all_worths(tree)
    deeds = [one for one in worths if one[0] == 'op']
    return len(deeds) <= 1 and all([one[1] < SMALL_NUMBERS for one in worths if one[0] == 'num'])


def blocks_below(rows, way):
    """Return how many steps stand within the step at a way; NoSuch."""
    return len(all_steps((at_way(rows, way),))) - 1
