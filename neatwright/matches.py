"""Matches: worths found by patterns with holes, exchanged by rules, and rules tried out on numbers."""

from neatwright.errors import BadChange, BadRun
from neatwright.runs import value_of
from neatwright.trees import (all_worths, calls_in, head_of, inner_worths, mapped, names_in, rebuilt, same_worth, size,
                              worths_of)


def matched(pattern, tree, holes):
    """Return a table of holes to worths by which a pattern is a worth, None for none."""
    found = {}
    return found if fit(pattern, tree, holes, found) else None


def fit(pattern, tree, holes, found):
    """Tell whether a pattern is a worth; put holes' worths in a table, the same each time."""
    waiting = [(pattern, tree)]
    while waiting != []:
        mine, its = waiting.pop()
        if is_hole(mine, holes) and mine[1] not in found:
            found[mine[1]] = its
        elif is_hole(mine, holes):
            if not same_worth(found[mine[1]], its):
                return False
        elif head_of(mine) != head_of(its):
            return False
        else:
            # What is put in last is taken next: so the first ones within go in last.
            waiting.extend(list(zip(inner_worths(mine), inner_worths(its)))[::-1])
    return True


def is_hole(tree, holes):
    """Tell whether a worth is one of some holes."""
    return tree[0] == 'name' and tree[1] in holes


def filled(pattern, table):
    """Return a pattern with its holes' worths."""
    return rebuilt(pattern, lambda one: table[one[1]] if is_hole(one, table) else one)


def check_rule(pattern, result, holes):
    """Return a rule's holes, each once, in order: the result has no hole that the pattern hasn't; BadChange."""
    mine = tuple(sorted(set(holes)))
    if is_hole(pattern, mine):
        raise BadChange('a pattern that is a hole alone')
    there = names_in(pattern)
    if any([name in mine and name not in there for name in names_in(result)]):
        raise BadChange("a hole in the result that the pattern hasn't")
    return mine


def by_rule(tree, pattern, result, holes):
    """Return a worth with all that a rule matches exchanged, inner ones first, once each; BadChange."""
    return changed(tree, pattern, result, check_rule(pattern, result, holes))


def changed(tree, pattern, result, holes):
    """Return a worth with all that a pattern matches exchanged, inner ones first."""
    return rebuilt(tree, lambda one: changed_here(one, pattern, result, holes))


def changed_here(tree, pattern, result, holes):
    """Return a worth exchanged where a pattern matches it, what stands within it left."""
    table = matched(pattern, tree, holes)
    return tree if table is None else filled(result, table)


def program_by_rule(rows, pattern, result, holes):
    """Return a program with all that a rule matches exchanged; BadChange."""
    mine = check_rule(pattern, result, holes)
    return mapped(rows, lambda tree: changed(tree, pattern, result, mine))


def places_in(tree, pattern, holes):
    """Return the worths of a worth that a pattern matches, outer ones first."""
    return tuple([one for one in all_worths(tree) if matched(pattern, one, holes) is not None])


def holds(pattern, result, holes, numbers):
    """Return the first table of holes to some numbers by which a rule's sides differ, None for none, by trying all.

    BadChange for calls or strange names.
    """
    mine = check_rule(pattern, result, holes)
    names = names_in(pattern) + names_in(result)
    if calls_in(pattern) + calls_in(result) != () or any([one not in mine for one in names]):
        raise BadChange("a rule with calls or strange names can't be tried")
    for table in tables_of(mine, numbers):
        if worth_or_none(pattern, table) != worth_or_none(result, table):
            return table
    return None


def tables_of(names, numbers):
    """Return all tables of names to numbers, in order."""
    found = [{}]
    for name in names:
        found = [{**table, name: number} for table in found for number in numbers]
    return found


def worth_or_none(tree, table):
    """Return a worth's number, None where it can't be told."""
    try:
        return value_of(tree, table)
    except BadRun:
        return None


def to_end(tree, rules, most):
    """Return (worth, rounds that changed something) by rules in turn till nothing changes, so many at most; BadChange.

    Behind the last of so many rounds one more is gone, to see that it changes nothing.
    """
    here = tree
    for rounds in range(most + 1):
        there = here
        for pattern, result, holes in rules:
            there = by_rule(there, pattern, result, holes)
        if same_worth(there, here):
            return (here, rounds)
        here = there
    raise BadChange('no end in so many rounds')


def lessens(pattern, result, holes):
    """Tell whether a rule always makes worths smaller: fewer worths, with holes, no hole more often; BadChange."""
    mine = check_rule(pattern, result, holes)
    return size(result) < size(pattern) and all([often(result, name) <= often(pattern, name) for name in mine])


def often(tree, name):
    """Return how often a worth reads a name."""
    return len([one for one in all_worths(tree) if one == ('name', name)])


def all_matches(rows, pattern, holes):
    """Return what a pattern matches in steps' own worths, not those of steps within, step by step."""
    return tuple([one for row in rows for tree in worths_of(row) for one in places_in(tree, pattern, holes)])
