"""Folds: worths of numbers made numbers, steps that can't be come to left out, with the reasons told."""

from neatwright.errors import BadPaper, BadRun
from neatwright.runs import by_deed
from neatwright.trees import (all_ways, all_worths, at_way, blocks_of, check_program, put_at, rebuilt, with_worths,
                              worths_of)

# The reason of a step that is left out because it stands behind one that surely gives.
BEHIND_GIVE = 'give'


def folded_worth(tree):
    """Return a worth whose deeds of numbers are done, those that fail left; turned twice is as it was."""
    return rebuilt(tree, folded_here)


def folded_here(tree):
    """Return a worth, those within it folded, as it is folded itself."""
    found = fold_here(tree)
    return tree if found is None else found


def fold_here(tree):
    """Return what a worth is folded to if those within it stay as they are; None where nothing folds."""
    if tree[0] == 'neg' and tree[1][0] == 'neg':
        return tree[1][1]
    if tree[0] == 'neg' and is_nought(tree[1]):
        return tree[1]
    if tree[0] == 'op' and is_number(tree[2]) and is_number(tree[3]):
        return deed_done(tree)
    return None


def deed_done(tree):
    """Return the number's worth that a deed of numbers makes; None for a deed that fails."""
    try:
        return number_tree(by_deed(tree[1], number_of(tree[2]), number_of(tree[3])))
    except BadRun:
        return None


def may_fold(tree):
    """Tell whether a worth, or one within it, folds."""
    # Each fold makes a worth smaller, so this tells whether the folded one is another, and goes no deeper to do so.
    return any([fold_here(one) is not None for one in all_worths(tree)])


def is_number(tree):
    """Tell whether a worth is a number, or one turned about."""
    return tree[0] == 'num' or (tree[0] == 'neg' and tree[1][0] == 'num')


def is_nought(tree):
    """Tell whether a worth is the number nought, or it turned about."""
    return is_number(tree) and number_of(tree) == 0


def number_of(tree):
    """Return the number of such a worth."""
    return tree[1] if tree[0] == 'num' else -tree[1][1]


def number_tree(value):
    """Return a number's worth."""
    return ('num', value) if value >= 0 else ('neg', ('num', -value))


def step_fold(rows, way):
    """Return (reason, steps) for a step that may be exchanged for others, None for none: "worth", "if" or "while"."""
    step = at_way(rows, way)
    worths = worths_of(step)
    if any([may_fold(tree) for tree in worths]):
        return ('worth', (with_worths(step, [folded_worth(tree) for tree in worths]),))
    if step[0] == 'if':
        return if_fold(step)
    if step[0] == 'while' and is_nought(step[1]):
        return ('while', ())
    return None


def if_fold(step):
    """Return (reason, steps) for an if of a number, or one with both rows bare whose test does nothing; else None."""
    if step[2:] == ((), ()) and is_free(step[1]):
        return ('if', ())
    if is_number(step[1]):
        return ('if', step[3] if number_of(step[1]) == 0 else step[2])
    return None


def is_free(tree):
    """Tell whether a worth can be left out: it reads and calls nothing, and does no deed."""
    return all([one[0] in ('num', 'neg') for one in all_worths(tree)])


def behind_give(rows):
    """Return the way of the first step that stands next behind one that surely gives, None for none."""
    for way in all_ways(rows):
        if stands_behind_give(rows, way):
            return way
    return None


def stands_behind_give(rows, way):
    """Tell whether the step at a way stands next behind one that surely gives."""
    return way[-1] > 0 and ends(at_way(rows, way[:-1] + (way[-1] - 1,)))


def ends(step):
    """Tell whether a step surely gives: a give, or an if of which both rows have a step that does."""
    if step[0] == 'if':
        return all([any([ends(one) for one in lot]) for lot in blocks_of(step)])
    return step[0] == 'give'


def next_fold(rows):
    """Return the first (reason, way, steps) of a program, None for none; what stands behind a give is left out last."""
    for way in all_ways(rows):
        found = step_fold(rows, way)
        if found is not None:
            return (found[0], way, found[1])
    way = behind_give(rows)
    return None if way is None else (BEHIND_GIVE, way, ())


def folded(rows):
    """Return (program, reasons): folded till nothing more is, each ("reason", way); BadTree."""
    here = check_program(rows)
    reasons = []
    found = next_fold(here)
    while found is not None:
        reason, way, steps = found
        reasons.append((reason, way))
        here = put_at(here, way, steps)
        found = next_fold(here)
    return (here, tuple(reasons))


def check_folds(rows, reasons):
    """Return the program behind (reason, way) folds, each of which may be done; BadPaper, BadTree."""
    here = check_program(rows)
    for reason, row in reasons:
        way = tuple(row)
        if way not in all_ways(here):
            raise BadPaper('no step at the way of a fold')
        here = put_at(here, way, steps_by(here, reason, way))
    return here


def steps_by(rows, reason, way):
    """Return the steps for which the step at a way is exchanged for a reason; BadPaper."""
    if reason == BEHIND_GIVE:
        if not stands_behind_give(rows, way):
            raise BadPaper('a step that is not behind a give')
        return ()
    found = step_fold(rows, way)
    if found is None or found[0] != reason:
        raise BadPaper('a step that does not fold for this reason')
    return found[1]


def is_folded(rows):
    """Tell whether nothing more folds; BadTree."""
    return next_fold(check_program(rows)) is None
