"""Reads: a text's words read as a program's tree, and a program told in words again, brackets where needed."""

from neatwright.errors import BadSign, BadTree
from neatwright.signs import words_of
from neatwright.trees import check_program

RANK = {'==': 1, '<': 1, '+': 2, '-': 2, '*': 3}
# No deed has this rank or more: where a single worth is asked for, each deed stands in brackets.
SINGLE = 4


class Reader:
    """A row of words, the place one has come to, and the (first word, word behind) of steps and blocks in order."""

    def __init__(self, words):
        self.words = tuple(words)
        self.place = 0
        self.marks = []
        self.blocks = []

    def peek(self):
        """Return the next word, bare at the end."""
        return self.words[self.place][1] if self.place < len(self.words) else ''

    def kind(self):
        """Return the next word's kind, bare at the end."""
        return self.words[self.place][0] if self.place < len(self.words) else ''

    def take(self, word):
        """Go past a word; BadSign for another."""
        if self.peek() != word:
            raise BadSign(f'another word than {word}')
        self.place += 1

    def name(self):
        """Return the next name, gone past; BadSign for another word."""
        if self.kind() != 'name':
            raise BadSign('another word than a name')
        name = self.peek()
        self.place += 1
        return name

    def read_block(self):
        """Return the steps in braces; BadSign."""
        return self.whole(self._block)

    def read_step(self):
        """Return the next step; BadSign."""
        return self.whole(self._marked_step)

    def step_itself(self):
        """Return the next step, not marked; BadSign."""
        return self.whole(self._step)

    def follow(self):
        """Return the steps behind an else: an if alone, marked as a block without places, or a block; BadSign.

        A bare block is none: a tree has nothing that it could be told from.
        """
        return self.whole(self._follow)

    def params(self):
        """Return the names in brackets; BadSign."""
        return self.whole(self._params)

    def worth(self, rank):
        """Return the next worth of deeds of a rank or more, the left ones first; BadSign."""
        return self.whole(lambda: self._worth(rank))

    def single(self):
        """Return the next number, name, call, neg or worth in brackets; BadSign."""
        return self.whole(self._single)

    def whole(self, part):
        """Return what a part reads; where that is refused, nothing of it is gone past or marked."""
        place, marks, blocks = self.place, len(self.marks), len(self.blocks)
        try:
            return part()
        except BadSign:
            self.place = place
            del self.marks[marks:]
            del self.blocks[blocks:]
            raise

    # The parts ask one another, not the methods above, so that what is refused is undone once, at the outermost.

    def _block(self):
        self.take('{')
        number, start = len(self.blocks), self.place
        # A block stands ahead of those within it, so it is marked at its beginning, and its end when it is come to.
        self.blocks.append((start, start))
        steps = []
        while self.peek() != '}':
            steps.append(self._marked_step())
        self.blocks[number] = (start, self.place)
        self.take('}')
        return tuple(steps)

    def _marked_step(self):
        number, start = len(self.marks), self.place
        self.marks.append((start, start))
        step = self._step()
        self.marks[number] = (start, self.place)
        return step

    def _step(self):
        word = self.peek()
        if word in ('say', 'give'):
            self.take(word)
            return self._simple((word,))
        if word == 'if':
            return self._branch()
        if word == 'while':
            self.take('while')
            return ('while', self._worth(1), self._block())
        if word == 'def':
            self.take('def')
            return ('def', self.name(), self._params(), self._block())
        name = self.name()
        self.take('=')
        return self._simple(('set', name))

    def _simple(self, head):
        tree = head + (self._worth(1),)
        self.take(';')
        return tree

    def _branch(self):
        self.take('if')
        test, steps = self._worth(1), self._block()
        if self.peek() != 'else':
            return ('if', test, steps, ())
        self.take('else')
        return ('if', test, steps, self._follow())

    def _follow(self):
        if self.peek() == 'if':
            self.blocks.append((-1, -1))
            return (self._marked_step(),)
        steps = self._block()
        if steps == ():
            self.blocks.pop()
        return steps

    def _params(self):
        self.take('(')
        names = []
        if self.peek() != ')':
            names.append(self.name())
        while self.peek() == ',':
            self.take(',')
            names.append(self.name())
        self.take(')')
        return tuple(names)

    def _worth(self, rank):
        found = self._single()
        while self.peek() in RANK and RANK[self.peek()] >= rank:
            deed = self.peek()
            self.take(deed)
            found = ('op', deed, found, self._worth(RANK[deed] + 1))
        return found

    def _single(self):
        if self.kind() == 'number':
            value = int(self.peek())
            self.place += 1
            return ('num', value)
        if self.peek() == '-':
            self.take('-')
            return ('neg', self._single())
        if self.peek() == '(':
            self.take('(')
            found = self._worth(1)
            self.take(')')
            return found
        name = self.name()
        return ('call', name, self._worths()) if self.peek() == '(' else ('name', name)

    def _worths(self):
        self.take('(')
        worths = []
        if self.peek() != ')':
            worths.append(self._worth(1))
        while self.peek() == ',':
            self.take(',')
            worths.append(self._worth(1))
        self.take(')')
        return tuple(worths)


def read(text):
    """Return a text's program; BadSign, BadTree."""
    return read_rows(Reader(words_of(text)))


def read_rows(reader):
    """Return the program of a reader's words from its place on; BadSign, BadTree."""
    rows = []
    while reader.kind() != '':
        rows.append(reader.read_step())
    return check_program(rows)


def read_worth(text):
    """Return a text's worth; BadSign."""
    reader = Reader(words_of(text))
    found = reader.worth(1)
    if reader.kind() != '':
        raise BadSign('more words behind a worth')
    return found


def told_worth(tree):
    """Return a worth's text, brackets where they are needed alone, blanks about deeds."""
    return told_from(tree, 1)


def told_from(tree, rank):
    """Return a worth's text where deeds of a rank or more stand without brackets."""
    behind = []
    first, least = tree, rank
    # Chains stand to the left in a tree, and may be long: they are gone down in a loop.
    while first[0] == 'op' and RANK[first[1]] >= least:
        least = RANK[first[1]]
        behind.append(f' {first[1]} {told_from(first[3], least + 1)}')
        first = first[2]
    return told_single(first) + ''.join(behind[::-1])


def told_single(tree):
    """Return a worth's text where no deed stands without brackets."""
    if tree[0] == 'num':
        return str(tree[1])
    if tree[0] == 'name':
        return tree[1]
    if tree[0] == 'neg':
        return '-' + told_from(tree[1], SINGLE)
    if tree[0] == 'call':
        worths = ', '.join([told_worth(worth) for worth in tree[2]])
        return f'{tree[1]}({worths})'
    return f'({told_worth(tree)})'


def told_plain(rows):
    """Return a program's text in one row, a blank between words; bare for none."""
    return ' '.join([told_step(row) for row in rows])


def told_step(row):
    """Return a step's text in one row."""
    if row[0] == 'def':
        names = ', '.join(row[2])
        return f'def {row[1]}({names}) {told_block(row[3])}'
    if row[0] == 'if':
        return f'if {told_worth(row[1])} {told_block(row[2])}' + told_follow(row[3])
    if row[0] == 'while':
        return f'while {told_worth(row[1])} {told_block(row[2])}'
    if row[0] == 'set':
        return f'{row[1]} = {told_worth(row[2])};'
    return f'{row[0]} {told_worth(row[1])};'


def told_follow(rows):
    """Return what an if's text has behind its first block: bare for no steps, an if alone without braces."""
    if len(rows) == 0:
        return ''
    if is_if_alone(rows):
        return ' else ' + told_step(rows[0])
    return ' else ' + told_block(rows)


def is_if_alone(rows):
    """Tell whether steps are an if alone, which needs no braces behind an else."""
    return len(rows) == 1 and rows[0][0] == 'if'


def told_block(rows):
    """Return the text of steps in braces in one row."""
    return '{ ' + told_plain(rows) + ' }' if len(rows) > 0 else '{ }'


def is_text(text):
    """Tell whether a text is a program's."""
    try:
        read(text)
    except (BadSign, BadTree):
        return False
    return True
