"""Edits: parts of a text exchanged all at once, put together, undone, and places followed through them."""

from neatwright.errors import BadChange


def check_edits(text, edits):
    """Return (start, end, word) edits in order: none past the text, over another or begun where one is; BadChange."""
    found = tuple(sorted([tuple(edit) for edit in edits]))
    last = None
    for start, end, _ in found:
        if not 0 <= start <= end <= len(text):
            raise BadChange('an edit past the text')
        if last is not None and (start < last[1] or start == last[0]):
            raise BadChange('an edit over another, or begun where one is')
        last = (start, end)
    return found


def applied(text, edits):
    """Return a text with edits done all at once; BadChange."""
    pieces = []
    place = 0
    for start, end, word in check_edits(text, edits):
        pieces.extend([text[place:start], word])
        place = end
    return ''.join(pieces) + text[place:]


def growth(edit):
    """Return by how many signs an edit makes a text longer."""
    start, end, word = edit
    return len(word) - (end - start)


def backward(text, edits):
    """Return the edits that undo edits on the text behind them, those that meet put together; BadChange."""
    found = []
    grown = 0
    for start, end, word in check_edits(text, edits):
        begin = start + grown
        found = with_edit(found, (begin, begin + len(word), text[start:end]), found != [] and found[-1][1] == begin)
        grown += growth((start, end, word))
    return tuple(found)


def with_edit(found, edit, meets):
    """Return a list of edits and one more, put together with the last one where they meet."""
    if not meets:
        return found + [edit]
    last = found[-1]
    return found[:-1] + [(last[0], edit[1], last[2] + edit[2])]


def place_behind(text, edits, place):
    """Return where a place of a text is behind edits.

    One within an exchanged part goes to its end, one at which a word is put in goes behind it, one where an exchanged
    part begins stays ahead; BadChange.
    """
    if not 0 <= place <= len(text):
        raise BadChange('a place past the text')
    grown = 0
    for start, end, word in check_edits(text, edits):
        if start < place < end:
            return start + grown + len(word)
        if end <= place:
            grown += growth((start, end, word))
    return place + grown


def smallest(one, other):
    """Return the edit by which a text is another, with the longest heads and then tails kept, none for one text."""
    if one == other:
        return ()
    head = alike_signs(one, other)
    tail = alike_signs(one[head:][::-1], other[head:][::-1])
    return ((head, len(one) - tail, other[head:len(other) - tail]),)


def alike_signs(one, other):
    """Return with how many signs two texts begin alike."""
    place = 0
    while place < min(len(one), len(other)) and one[place] == other[place]:
        place += 1
    return place


def both(text, one, other):
    """Return two lots of edits together where none stands over another, alike ones once; BadChange."""
    mine = check_edits(text, one)
    others = check_edits(text, other)
    return check_edits(text, mine + tuple([edit for edit in others if edit not in mine]))


def behind_each_other(text, one, other):
    """Return the one edit that does a lot of edits, then another lot on the text behind it; BadChange."""
    return smallest(text, applied(applied(text, one), other))


def word_edits(old, new, cut):
    """Return the edits by which a text is another, piece by piece where a function cuts both into as many, else one."""
    mine = parts_by(old, cut(old))
    others = parts_by(new, cut(new))
    if len(mine) != len(others):
        return smallest(old, new)
    found = []
    for (start, end), (begin, behind) in zip(mine, others):
        edit = (start, end, new[begin:behind])
        if old[start:end] != edit[2]:
            # What is put in where a piece begins goes together with that piece, as no two edits begin at one place.
            found = with_edit(found, edit, found != [] and found[-1][0] == start)
    return tuple(found)


def parts_by(text, pieces):
    """Return the (start, end) of the parts of a text: its pieces, and what stands about each of them."""
    found = []
    place = 0
    for start, end in piece_places(text, pieces):
        found.extend([(place, start), (start, end)])
        place = end
    return found + [(place, len(text))]


def piece_places(text, pieces):
    """Return the (start, end) of pieces: (kind, word, place) as signs tell them, or words alone, in order."""
    found = []
    place = 0
    for piece in pieces:
        word = piece if isinstance(piece, str) else piece[1]
        start = text.find(word, place) if isinstance(piece, str) else piece[2]
        place = start + len(word)
        found.append((start, place))
    return found


def size_behind(text, edits):
    """Return how long a text is behind edits; BadChange."""
    return len(text) + sum([growth(edit) for edit in check_edits(text, edits)])
