"""Desks: lines said to a program, answered, written down and done again."""

from neatwright.errors import (BadChange, BadLayout, BadPaper, BadRun, BadSign, BadSize, BadStore, BadTree, NeatFault,
                               NoSuch)
from neatwright.folds import folded
from neatwright.lints import counts
from neatwright.moves import put_in
from neatwright.reads import read, told_plain
from neatwright.renames import renamed, renamed_def
from neatwright.runs import said
from neatwright.scopes import names_of, scopes_of
from neatwright.shapes import neat_rows
from neatwright.signs import FIGURES, is_name
from neatwright.trees import check_program

BASE = 9973
WIDE = 2000003
# The outer scope has no name: in a line a stroke stands for it.
OUTER = '-'
# How many steps a program has when it is run.
STEPS = 200
# How many figures a width has at most.
WIDTH_FIGURES = 3


def figure_of(text):
    """Return a text's figure: its signs' numbers added up, then weighed by their places from one on."""
    numbers = [ord(sign) for sign in text]
    weighed = sum([number * (place + 1) for place, number in enumerate(numbers)])
    return sum(numbers) % WIDE * BASE + weighed % BASE


class Desk:
    """A program, the ones ahead of it, and the text of what was done."""

    def __init__(self):
        self.program = ()
        self.ahead = []
        self.text = ''
        self.many = 0

    def say(self, line):
        """Do or answer a line; return the answer, "error: ..." for what is refused."""
        try:
            return self.do(line)
        except BadSign:
            return 'error: sign'
        except BadTree:
            return 'error: tree'
        except BadLayout:
            return 'error: layout'
        except BadRun:
            return 'error: run'
        except BadChange:
            return 'error: change'
        except BadPaper:
            return 'error: paper'
        except BadSize:
            return 'error: size'
        except NoSuch:
            return 'error: no such'

    def do(self, line):
        """Do or answer a line by its first word; what changes something is written down; BadSign."""
        if '\n' in line:
            raise BadSign("a line with a row's end")
        head, _, tail = line.strip(' ').partition(' ')
        rest = tail.strip(' ')
        written = f'{head} {rest}'
        if head == 'back' and rest == '':
            if self.ahead == []:
                raise NoSuch('no program is ahead')
            return self.let(self.ahead.pop(), written)
        program = self.changed_by(head, rest)
        if program is None:
            return self.answer(head, rest)
        self.ahead.append(self.program)
        return self.let(program, written)

    def changed_by(self, head, rest):
        """Return the program behind a line that changes it; None for another line."""
        words = words_in(rest)
        if head == 'add':
            return check_program(self.program + read(rest))
        if head == 'fold' and words == ():
            return folded(self.program)[0]
        if head == 'rename' and len(words) == 3 and is_scope(words[0]) and is_name(words[1]) and is_name(words[2]):
            return renamed(self.program, self.scope(words[0]), words[1], words[2])
        if head == 'call' and len(words) == 2 and is_name(words[0]) and is_name(words[1]):
            return renamed_def(self.program, words[0], words[1])
        if head == 'put' and len(words) == 2 and is_scope(words[0]) and is_name(words[1]):
            return put_in(self.program, self.scope(words[0]), words[1])
        return None

    def scope(self, word):
        """Return a scope: the outer one for a stroke."""
        return '' if word == OUTER else word

    def let(self, program, line):
        """Let a program be, and write the line down; return its text in one row."""
        told = told_plain(program)
        body = f'{self.many} {line}'
        self.program = tuple(program)
        self.text += f'{body} {figure_of(body)}\n'
        self.many += 1
        return told

    def answer(self, head, rest):
        """Return the program's text, neat or in one row, what it says, its slips or names; BadSign, BadSize, NoSuch."""
        if head == 'neat' and is_width(rest):
            return neat_rows(self.program, int(rest)).replace('\n', '/')
        if head == 'names' and is_scope(rest):
            return ' '.join(names_of(self.program, self.scope(rest)))
        if rest == '':
            return self.answer_alone(head)
        raise BadSign('another line')

    def answer_alone(self, head):
        """Return the answer to a line of one word; BadSign."""
        if head == 'show':
            return told_plain(self.program)
        if head == 'run':
            numbers, stuck = said(self.program, STEPS)
            return ' '.join([str(number) for number in numbers] + (['...'] if stuck else []))
        if head == 'lint':
            there = counts(self.program)
            return ' '.join([kind.replace(' ', '-') + f' {there[kind]}' for kind in there])
        if head == 'scopes':
            return ' '.join([OUTER if scope == '' else scope for scope in scopes_of(self.program)])
        raise BadSign('another line')


def words_in(text):
    """Return the words of a text, blanks between."""
    return tuple([word for word in text.split(' ') if word != ''])


def is_scope(word):
    """Tell whether a word can be a scope in a line."""
    return word == OUTER or is_name(word)


def is_width(word):
    """Tell whether a word is a number of up to three figures."""
    if word == '' or len(word) > WIDTH_FIGURES or any([sign not in FIGURES for sign in word]):
        return False
    return word == '0' or word[0] != '0'


def lines_of(text):
    """Return the lines of a written text, a row without an end left out; BadStore."""
    found = []
    for place, row in enumerate(text.split('\n')[:-1]):
        body, _, figure = row.rpartition(' ')
        head, _, line = body.partition(' ')
        if head != str(place) or figure != str(figure_of(body)):
            raise BadStore("a row that isn't whole")
        found.append(line)
    return tuple(found)


def done_again(text):
    """Return the desk that a text's lines make from nothing; BadStore for what can't be."""
    desk = Desk()
    for line in lines_of(text):
        redo(desk, line)
    # A desk that was asked, not told to change something, would have written nothing: such a row can't be either.
    if desk.text != text[:text.rfind('\n') + 1]:
        raise BadStore('a text that no desk writes')
    return desk


def redo(desk, line):
    """Do a line of a written text; BadStore for what is refused."""
    try:
        desk.do(line)
    except NeatFault:
        raise BadStore('a line that is refused')
