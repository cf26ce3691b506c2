"""Signs: a text cut in words with their places, remarks and gaps too, so that nothing of it is lost."""

from neatwright.errors import BadSign

SMALL = 'abcdefghijklmnopqrstuvwxyz'
FIGURES = '0123456789'
KEYS = ('say', 'if', 'else', 'while', 'def', 'give')
# The longer mark stands ahead of the one that it begins with, so that it is found first.
MARKS = ('==', '=', '<', '+', '-', '*', '(', ')', '{', '}', ',', ';')


def cut(text):
    """Return the (kind, word, place) of all pieces: key, name, number, mark, remark or gap; BadSign."""
    found = []
    place = 0
    while place < len(text):
        kind, end = piece_at(text, place)
        found.append((kind, text[place:end], place))
        place = end
    return tuple(found)


def piece_at(text, place):
    """Return (kind, end) of the piece that begins at a place; BadSign."""
    if not 0 <= place < len(text):
        raise BadSign('no piece begins outside of the text')
    sign = text[place]
    if sign in ' \n':
        return ('gap', run_on(text, place, ' \n'))
    if sign == '#':
        return ('remark', remark_end(text, place))
    if sign in SMALL:
        end = name_end(text, place)
        return ('key' if text[place:end] in KEYS else 'name', end)
    if sign in FIGURES:
        return ('number', number_end(text, place))
    return ('mark', mark_end(text, place))


def run_on(text, place, signs):
    """Return where a run of some signs that begins at a place ends."""
    end = place
    while end < len(text) and text[end] in signs:
        end += 1
    return end


def name_end(text, place):
    """Return where the name or key that begins at a place ends."""
    return run_on(text, place, SMALL + FIGURES + '_')


def remark_end(text, place):
    """Return where the remark that begins at a place ends: its row's end is no part of it."""
    end = text.find('\n', place)
    return len(text) if end < 0 else end


def number_end(text, place):
    """Return where the number that begins at a place ends; BadSign for a nought ahead."""
    end = run_on(text, place, FIGURES)
    if end - place > 1 and text[place] == '0':
        raise BadSign('a number with a nought ahead')
    return end


def mark_end(text, place):
    """Return where the mark that begins at a place ends; BadSign for another sign."""
    for mark in MARKS:
        if text.startswith(mark, place):
            return place + len(mark)
    raise BadSign("a sign that isn't the language's")


def joined(pieces):
    """Return the text of pieces."""
    return ''.join([piece[1] for piece in pieces])


def words_of(text):
    """Return the (kind, word, place) of keys, names, numbers and marks alone; BadSign."""
    return tuple([piece for piece in cut(text) if piece[0] not in ('remark', 'gap')])


def remarks_of(text):
    """Return the (words ahead, remark, whether it stands alone in its row) of all remarks; BadSign."""
    found = []
    words = 0
    alone = True
    for kind, word, _ in cut(text):
        if kind == 'remark':
            found.append((words, word.rstrip(' '), alone))
        elif kind == 'gap':
            # Behind a remark a row's end comes first, so the next one is alone by it.
            alone = alone or '\n' in word
        else:
            words += 1
            alone = False
    return tuple(found)


def row_and_column(text, place):
    """Return the (row, column), from one on, of a place."""
    row = text.count('\n', 0, place) + 1
    # Where no row's end is ahead, rfind gives -1: the place ahead of the first sign.
    return (row, place - text.rfind('\n', 0, place))


def is_name(word):
    """Tell whether a word is a name: a small letter, then small letters, figures or strokes, no key."""
    # Trees ask this of whatever stands in a name's place, so it need not be a text.
    if not isinstance(word, str) or word == '' or word in KEYS:
        return False
    return word[0] in SMALL and name_end(word, 0) == len(word)


def check_name(word):
    """Return a name; BadSign for what is none."""
    if not is_name(word):
        raise BadSign('a word that is no name')
    return word


def same_words(one, other):
    """Tell whether two texts have the same words, gaps and remarks aside; BadSign."""
    return [piece[1] for piece in words_of(one)] == [piece[1] for piece in words_of(other)]


def without_gaps_at_ends(text):
    """Return a text whose rows have no blanks at their ends and that ends with one row's end, if it isn't bare."""
    rows = [row.rstrip(' ') for row in text.split('\n')]
    while rows != [] and rows[-1] == '':
        rows.pop()
    return ''.join([row + '\n' for row in rows])
