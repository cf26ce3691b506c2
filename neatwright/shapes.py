"""Shapes: a program's steps as rows of text, worths broken by their best way, with remarks kept in order."""

from neatwright.errors import BadSize
from neatwright.layouts import best_way, group, in_turn, laid, line, nest, text
from neatwright.reads import RANK, SINGLE, Reader, is_if_alone, read_rows
from neatwright.signs import remarks_of, words_of
from neatwright.trees import blocks_of, check_program


def worth_piece(tree, rank, inward):
    """Return the piece of a worth where deeds of a rank or more stand without brackets."""
    if tree[0] == 'num':
        return text(str(tree[1]))
    if tree[0] == 'name':
        return text(tree[1])
    if tree[0] == 'neg':
        return in_turn((text('-'), worth_piece(tree[1], SINGLE, inward)))
    if tree[0] == 'call':
        worths = [worth_piece(worth, 1, inward) for worth in tree[2]]
        return listed(tree[1] + '(', worths, ')', inward)
    if RANK[tree[1]] < rank:
        return in_turn((text('('), chain_piece(tree, inward), text(')')))
    return chain_piece(tree, inward)


def chain_piece(tree, inward):
    """Return the group of a chain of deeds of one rank."""
    rank = RANK[tree[1]]
    behind = []
    first = tree
    while first[0] == 'op' and RANK[first[1]] == rank:
        behind.append(in_turn((line(), text(first[1] + ' '), worth_piece(first[3], rank + 1, inward))))
        first = first[2]
    return group(in_turn((worth_piece(first, rank, inward), nest(inward, in_turn(behind[::-1])))))


def listed(head, pieces, tail, inward):
    """Return the group of pieces with "," between in a bracket that a head opens and a tail closes."""
    if len(pieces) == 0:
        return text(head + tail)
    inside = [line(''), pieces[0]]
    for piece in pieces[1:]:
        inside.extend([text(','), line(), piece])
    return group(in_turn((text(head), nest(inward, in_turn(inside)), line(''), text(tail))))


def head_piece(step, inward):
    """Return the piece of a step's head: all of a simple one, a whole one's words ahead of its first brace."""
    if step[0] == 'def':
        return listed(f'def {step[1]}(', [text(name) for name in step[2]], ') {', inward)
    if step[0] in ('if', 'while'):
        return in_turn((text(step[0] + ' '), worth_piece(step[1], 1, inward), text(' {')))
    ahead = step[1] + ' = ' if step[0] == 'set' else step[0] + ' '
    return in_turn((text(ahead), worth_piece(step[-1], 1, inward), text(';')))


class Shaper:
    """A width, how far blocks stand in, and the remarks of slots: (kind, number)."""

    def __init__(self, width, inward, remarks):
        if width < 1 or inward < 1:
            raise BadSize('a width, or how far blocks stand in, below one')
        self.width = width
        self.inward = inward
        self.remarks = remarks
        self.step = 0
        self.block = 0
        self.rows = []

    def put(self, words, deep):
        """Put a text's rows in, so deep."""
        self.rows.extend([' ' * (self.inward * deep) + row for row in words.split('\n')])

    def notes(self, slot, deep):
        """Put a slot's remarks in, each in a row of its own."""
        for remark in self.remarks.get(slot, ()):
            self.put(remark, deep)

    def note_behind(self, slot):
        """Put a slot's remark behind the last row."""
        for remark in self.remarks.get(slot, ()):
            self.rows[-1] += '  ' + remark

    def head(self, piece, deep):
        """Put a piece in by its best way."""
        room = max(0, self.width - self.inward * deep)
        self.put(laid(piece, best_way(piece, room)), deep)

    def put_steps(self, steps, deep):
        """Put steps in."""
        for step in steps:
            self.one(step, deep, '')

    def one(self, step, deep, ahead):
        """Put a step in, with words ahead of its head."""
        number = self.step
        self.step += 1
        self.notes(('ahead', number), deep)
        self.head(in_turn((text(ahead), head_piece(step, self.inward))), deep)
        lots = blocks_of(step)
        if lots == ():
            self.note_behind(('behind', number))
            return
        self.inside(lots[0], deep + 1)
        follow = lots[1] if len(lots) > 1 else ()
        if self.is_chained(follow):
            # The if alone is a block, too, though it has no braces.
            self.block += 1
            self.one(follow[0], deep, '} else ')
            return
        if len(follow) > 0:
            self.put('} else {', deep)
            self.inside(follow, deep + 1)
        self.put('}', deep)

    def is_chained(self, steps):
        """Tell whether steps behind an else are an if alone without remarks about it."""
        about = (('ahead', self.step), ('end', self.block))
        return is_if_alone(steps) and all([len(self.remarks.get(slot, ())) == 0 for slot in about])

    def inside(self, steps, deep):
        """Put a block's steps and last remarks in."""
        number = self.block
        self.block += 1
        self.put_steps(steps, deep)
        self.notes(('end', number), deep)


class Slots:
    """The (slot, words ahead) of a program's slots, in the order of its text, by a reader's places."""

    def __init__(self, rows, reader):
        self.reader = reader
        self.step = 0
        self.block = 0
        self.found = []
        self.slot_steps(rows)
        self.found.append((('end', 'all'), len(reader.words)))

    def slot_steps(self, rows):
        """Put the slots of steps in."""
        for row in rows:
            number = self.step
            self.step += 1
            first, behind = self.reader.marks[number]
            self.found.append((('ahead', number), first))
            lots = blocks_of(row)
            if lots == ():
                self.found.append((('behind', number), behind))
            for place, lot in enumerate(lots):
                # A bare block behind an else is none, and the reader has no places for it.
                if place == 0 or len(lot) > 0:
                    self.inside(lot)

    def inside(self, rows):
        """Put the slots of a block in; one without places holds nothing at its end."""
        number = self.block
        self.block += 1
        self.slot_steps(rows)
        self.found.append((('end', number), self.reader.blocks[number][1]))


def neat_rows(rows, width=60, inward=4):
    """Return a program's text, neat; BadSize, BadTree."""
    return shaped(Shaper(width, inward, {}), check_program(rows))


def neat(words, width=60, inward=4):
    """Return a text's program, neat, with its remarks; BadSign, BadSize, BadTree."""
    rows, remarks = slots_of(words)
    return shaped(Shaper(width, inward, remarks), rows)


def shaped(shaper, rows):
    """Return the text of a program that a shaper puts in, each row with its end."""
    shaper.put_steps(rows, 0)
    shaper.notes(('end', 'all'), 0)
    return ''.join([row + '\n' for row in shaper.rows])


def slots_of(words):
    """Return (program, table of slots to remarks) of a text; BadSign, BadTree."""
    reader = Reader(words_of(words))
    rows = read_rows(reader)
    slots = Slots(rows, reader).found
    table = {}
    place = 0
    for ahead, remark, alone in remarks_of(words):
        # The last slot holds any remark, so one is found ahead of the end.
        while not may_hold(slots[place], ahead, alone, table):
            place += 1
        slot = slots[place][0]
        table[slot] = table.get(slot, ()) + (remark,)
    return (rows, table)


def may_hold(slot, ahead, alone, table):
    """Tell whether a slot may hold a remark with so many words ahead."""
    name, words = slot
    if name[0] == 'behind':
        return words == ahead and not alone and len(table.get(name, ())) == 0
    return words >= ahead


def is_neat(words, width=60, inward=4):
    """Tell whether a text stands as it would be told neat; BadSign, BadSize, BadTree."""
    return neat(words, width, inward) == words
