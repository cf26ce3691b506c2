"""Diffs: rows of two texts side by side, the fewest put in and left out, told, done and undone."""

from neatwright.errors import BadPaper, BadSize

KEPT = ' '
LEFT_OUT = '-'
PUT_IN = '+'


def common_table(one, other):
    """Return a table of (place, place) to how many rows both have in common from there on, at most."""
    found = {}
    for place in range(len(one), -1, -1):
        for behind in range(len(other), -1, -1):
            if place == len(one) or behind == len(other):
                found[(place, behind)] = 0
            elif one[place] == other[behind]:
                found[(place, behind)] = found[(place + 1, behind + 1)] + 1
            else:
                found[(place, behind)] = max(found[(place + 1, behind)], found[(place, behind + 1)])
    return found


def diff(one, other):
    """Return the (sign, row) steps from rows to others: " " kept, "-" left out, "+" put in: fewest, left out first."""
    table = common_table(one, other)
    steps = []
    place = 0
    behind = 0
    while place < len(one) and behind < len(other):
        if one[place] == other[behind]:
            steps.append((KEPT, one[place]))
            place += 1
            behind += 1
        elif table[(place + 1, behind)] >= table[(place, behind + 1)]:
            steps.append((LEFT_OUT, one[place]))
            place += 1
        else:
            steps.append((PUT_IN, other[behind]))
            behind += 1
    steps.extend([(LEFT_OUT, row) for row in one[place:]])
    steps.extend([(PUT_IN, row) for row in other[behind:]])
    return tuple(steps)


def changes(steps):
    """Return how many steps put in or leave out."""
    return len([sign for sign, _ in steps if sign != KEPT])


def done(rows, steps):
    """Return rows behind steps; BadPaper for a step that keeps or leaves out another row."""
    found = []
    place = 0
    for sign, row in steps:
        if sign not in (KEPT, LEFT_OUT, PUT_IN):
            raise BadPaper('another sign')
        if sign != PUT_IN:
            if place == len(rows) or rows[place] != row:
                raise BadPaper('a step that keeps or leaves out another row')
            place += 1
        if sign != LEFT_OUT:
            found.append(row)
    if place < len(rows):
        raise BadPaper('rows are left behind the steps')
    return tuple(found)


def undone(steps):
    """Return the steps that undo steps."""
    turned = {LEFT_OUT: PUT_IN, PUT_IN: LEFT_OUT}
    return tuple([(turned.get(sign, sign), row) for sign, row in steps])


def hunks(steps, near):
    """Return the (place, place in the others, steps) of lots of changes, so many kept rows about them.

    Those that meet are put together; BadSize below nought.
    """
    if near < 0:
        raise BadSize('fewer kept rows than none')
    found = []
    place = 0
    behind = 0
    wanted = near_changes(steps, near)
    for number, (sign, row) in enumerate(steps):
        if number in wanted:
            # A step next behind one of a lot belongs to that lot.
            if number - 1 not in wanted:
                found.append((place, behind, []))
            found[-1][2].append((sign, row))
        place += 0 if sign == PUT_IN else 1
        behind += 0 if sign == LEFT_OUT else 1
    return tuple([(start, other, tuple(lot)) for start, other, lot in found])


def near_changes(steps, near):
    """Return a table of the places of steps that change something, or stand so near to one that does."""
    found = {}
    for number, (sign, _) in enumerate(steps):
        if sign != KEPT:
            for place in range(max(0, number - near), min(len(steps), number + near + 1)):
                found[place] = True
    return found


def done_hunks(rows, lots):
    """Return rows behind lots of changes in order; BadPaper where a lot doesn't fit."""
    found = []
    place = 0
    for start, other, steps in lots:
        if start < place or start > len(rows) or len(found) + start - place != other:
            raise BadPaper('a lot at another place')
        end = start + len([sign for sign, _ in steps if sign != PUT_IN])
        found.extend(rows[place:start])
        found.extend(done(rows[start:end], steps))
        place = end
    found.extend(rows[place:])
    return tuple(found)


def told(steps):
    """Return rows of texts: each step's sign and row."""
    return tuple([sign + row for sign, row in steps])


def read_steps_told(rows):
    """Return the steps of told rows; BadPaper for a bare row or another sign."""
    if any([row[:1] not in (KEPT, LEFT_OUT, PUT_IN) for row in rows]):
        raise BadPaper('a bare row, or one with another sign')
    return tuple([(row[0], row[1:]) for row in rows])


def merged(base, one, other):
    """Return (rows, places in them at which quarrels begin) of two changes of rows.

    One's alone is taken, alike ones once, all else stands one behind the other.
    """
    found = []
    quarrels = []
    last = (0, 0, 0)
    # The ends stand behind all rows that both keep: they cut the last parts off, and have no row of their own.
    for places in kept_by_both(base, one, other) + [(len(base), len(one), len(other))]:
        parts = [tuple(rows[start:end]) for rows, start, end in zip((base, one, other), last, places)]
        if is_quarrel(parts):
            quarrels.append(len(found))
        found.extend(merged_part(parts))
        found.extend(base[places[0]:places[0] + 1])
        last = tuple([place + 1 for place in places])
    return (tuple(found), tuple(quarrels))


def is_quarrel(parts):
    """Tell whether a part of the base is changed by both, and not alike."""
    base, one, other = parts
    return base not in (one, other) and one != other


def merged_part(parts):
    """Return the rows of a part of the base and of what two changes make of it."""
    base, one, other = parts
    if is_quarrel(parts):
        return one + other
    return other if one == base else one


def kept_by_both(base, one, other):
    """Return the (place, place, place) of base's rows that both changes keep, in order."""
    mine = kept_places(base, one)
    others = kept_places(base, other)
    return [(place, mine[place], others[place]) for place in range(len(base)) if place in mine and place in others]


def kept_places(base, rows):
    """Return a table of base's places that are kept to their places in rows."""
    found = {}
    place = 0
    behind = 0
    for sign, _ in diff(base, rows):
        if sign == KEPT:
            found[place] = behind
        place += 0 if sign == PUT_IN else 1
        behind += 0 if sign == LEFT_OUT else 1
    return found
