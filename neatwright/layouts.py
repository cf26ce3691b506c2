"""Layouts: pieces that may stand in one row or many, and the best way for a width: fewest signs past it, then rows."""

from neatwright.errors import BadLayout, BadSize


def text(word):
    """Return the piece of a word; BadLayout for one with a row's end."""
    if '\n' in word:
        raise BadLayout("a word with a row's end")
    return ('text', word)


def line(flat=' '):
    """Return the piece that is a row's end, or a word where its group stands in one row."""
    return ('line', flat)


def in_turn(pieces):
    """Return the piece of pieces one behind the other."""
    return ('row', tuple(pieces))


def nest(count, piece):
    """Return the piece whose row's ends stand in by a count more; BadSize below nought."""
    if count < 0:
        raise BadSize('a nest of fewer blanks than none')
    return ('nest', count, piece)


def group(piece):
    """Return the piece that stands in one row wholly, or whose own ends all are ends."""
    return ('group', piece)


def pieces_in(piece):
    """Return the pieces within a piece itself, in order."""
    if piece[0] == 'row':
        return piece[1]
    if piece[0] in ('nest', 'group'):
        return piece[-1:]
    return ()


def all_pieces(piece):
    """Return a piece and all within it, each ahead of those within it."""
    found = []
    waiting = [piece]
    while waiting != []:
        one = waiting.pop()
        found.append(one)
        waiting.extend(pieces_in(one)[::-1])
    return found


def groups_in(piece):
    """Return how many groups a piece has, itself too."""
    return len([one for one in all_pieces(piece) if one[0] == 'group'])


def flat_text(piece):
    """Return a piece's text in one row."""
    return ''.join([one[1] for one in all_pieces(piece) if one[0] in ('text', 'line')])


def flat_way(piece):
    """Return the way of a piece in one row."""
    return (0,) * groups_in(piece)


def ways(piece, flat=False):
    """Return all ways: a nought for each group in one row and a one for each broken one, outer ones ahead, in order."""
    if flat:
        return [flat_way(piece)]
    if piece[0] == 'group':
        return [flat_way(piece)] + [(1,) + way for way in ways(piece[1])]
    found = [()]
    for one in pieces_in(piece):
        inner = ways(one)
        found = [way + more for way in found for more in inner]
    return found


def is_way(piece, way):
    """Tell whether a way is one of a piece's: there may be too many to go through them all."""
    number = 0
    waiting = [(piece, False)]
    while waiting != []:
        one, flat = waiting.pop()
        if one[0] == 'group':
            if number == len(way) or way[number] not in ((0,) if flat else (0, 1)):
                return False
            flat = way[number] == 0
            number += 1
        waiting.extend([(inner, flat) for inner in pieces_in(one)[::-1]])
    return number == len(way)


def laid(piece, way):
    """Return a piece's text by a way; BadLayout for a way of another piece."""
    if not is_way(piece, way):
        raise BadLayout("a way that isn't the piece's")
    return lay(piece, 0, False, tuple(way))[0]


def lay(piece, inward, flat, way):
    """Return (text, rest of a way) of a piece whose row's ends stand in so far."""
    if piece[0] == 'text':
        return (piece[1], way)
    if piece[0] == 'line':
        return (piece[1] if flat else row_end(inward), way)
    if piece[0] == 'nest':
        return lay(piece[2], inward + piece[1], flat, way)
    if piece[0] == 'group':
        return lay(piece[1], inward, flat or way[0] == 0, way[1:])
    words = []
    rest = way
    for one in piece[1]:
        word, rest = lay(one, inward, flat, rest)
        words.append(word)
    return (''.join(words), rest)


def row_end(inward):
    """Return a row's end and the blanks by which the next row stands in."""
    return '\n' + ' ' * inward


def cost(words, width):
    """Return (signs past a width in all rows, rows) of a text; BadSize below nought."""
    if width < 0:
        raise BadSize('a width below nought')
    rows = words.split('\n')
    return (sum([past(len(row), width) for row in rows]), len(rows))


def past(column, width):
    """Return how many signs of a row up to a column are past a width."""
    return max(0, column - width)


def best_way(piece, width, start=0):
    """Return the way of least cost, the first row begun so far in, the first in order of such; BadSize."""
    if width < 0 or start < 0:
        raise BadSize('a width, or a beginning, below nought')
    states = spread(piece, 0, False, {start: (past(start, width), 1, ())}, width)
    return min(states.values())[2]


def spread(piece, inward, flat, states, width):
    """Return a table of columns to the least (signs past, rows, way) behind a piece, from such a table ahead of it."""
    if flat:
        return shifted(marked(states, flat_way(piece)), len(flat_text(piece)), width)
    if piece[0] == 'text':
        return shifted(states, len(piece[1]), width)
    if piece[0] == 'line':
        signs, rows, way = min(states.values())
        return {inward: (signs + past(inward, width), rows + 1, way)}
    if piece[0] == 'nest':
        return spread(piece[2], inward + piece[1], False, states, width)
    if piece[0] == 'group':
        whole = spread(piece, inward, True, states, width)
        return least(whole, spread(piece[1], inward, False, marked(states, (1,)), width))
    found = dict(states)
    for one in piece[1]:
        found = spread(one, inward, False, found, width)
    return found


def least(one, other):
    """Return a table of what is least at each column of two tables."""
    found = dict(one)
    for column, state in other.items():
        found[column] = min(state, found.get(column, state))
    return found


def marked(states, more):
    """Return a table whose ways go on by some marks."""
    return {column: (signs, rows, way + tuple(more)) for column, (signs, rows, way) in states.items()}


def shifted(states, count, width):
    """Return a table of columns behind so many signs more."""
    found = {}
    for column, (signs, rows, way) in states.items():
        end = column + count
        found[end] = (signs + past(end, width) - past(column, width), rows, way)
    return found


def best(piece, width):
    """Return a piece's text by its best way; BadSize."""
    return laid(piece, best_way(piece, width))


def check_best(piece, width, words):
    """Return the cost of a text that is one of a piece's and none of its ways costs less; BadLayout, BadSize."""
    mine = cost(words, width)
    if len(words) not in places_behind(piece, 0, False, words, (0,)):
        raise BadLayout("a text that isn't the piece's")
    if cost(best(piece, width), width) < mine:
        raise BadLayout('another way costs less')
    return mine


def places_behind(piece, inward, flat, words, places):
    """Return the places of a text at which a piece may end, in any way, if it begins at one of some places."""
    if flat:
        return behind_word(flat_text(piece), words, places)
    if piece[0] == 'text':
        return behind_word(piece[1], words, places)
    if piece[0] == 'line':
        return behind_word(row_end(inward), words, places)
    if piece[0] == 'nest':
        return places_behind(piece[2], inward + piece[1], False, words, places)
    if piece[0] == 'group':
        whole = places_behind(piece, inward, True, words, places)
        return tuple(sorted(set(whole + places_behind(piece[1], inward, False, words, places))))
    found = tuple(places)
    for one in piece[1]:
        found = places_behind(one, inward, False, words, found)
    return found


def behind_word(word, words, places):
    """Return the places of a text behind a word, for those of some places at which it stands."""
    return tuple([place + len(word) for place in places if words.startswith(word, place)])
