"""Points 3 and 4: texts read as trees, and trees told in one row, brackets where they are needed alone."""

import random
import unittest

from helper import PROGRAM, WORTHS, tuples_throughout
from making import Maker, programs
from neatwright.errors import BadSign, BadTree
from neatwright.reads import (Reader, is_text, read, read_worth, told_block, told_from, told_plain, told_step,
                              told_worth)
from neatwright.signs import words_of
from neatwright.trees import all_worths

A, B, C = ('name', 'a'), ('name', 'b'), ('name', 'c')
ONE, TWO = ('num', 1), ('num', 2)


def op(deed, left, right):
    return ('op', deed, left, right)


# Worths' texts as they are told, and their trees by hand.
TOLD = (
    ('1', ONE), ('0', ('num', 0)), ('120', ('num', 120)), ('a', A), ('f()', ('call', 'f', ())),
    ('f(1, a)', ('call', 'f', (ONE, A))), ('f(g(1), -a)', ('call', 'f', (('call', 'g', (ONE,)), ('neg', A)))),
    ('f(a + b)', ('call', 'f', (op('+', A, B),))),
    ('a + b', op('+', A, B)), ('a - b - c', op('-', op('-', A, B), C)), ('a - (b - c)', op('-', A, op('-', B, C))),
    ('a + b * c', op('+', A, op('*', B, C))), ('(a + b) * c', op('*', op('+', A, B), C)),
    ('a * b + c', op('+', op('*', A, B), C)), ('a * (b + c)', op('*', A, op('+', B, C))),
    ('a * b * c', op('*', op('*', A, B), C)), ('a * (b * c)', op('*', A, op('*', B, C))),
    ('a == b < c', op('<', op('==', A, B), C)), ('a == (b < c)', op('==', A, op('<', B, C))),
    ('a < b == c', op('==', op('<', A, B), C)), ('a + b < c - 1', op('<', op('+', A, B), op('-', C, ONE))),
    ('a + (b < c)', op('+', A, op('<', B, C))), ('(a < b) + c', op('+', op('<', A, B), C)),
    ('(a == b) * (a < 1)', op('*', op('==', A, B), op('<', A, ONE))),
    ('a - b * c + 1', op('+', op('-', A, op('*', B, C)), ONE)),
    ('-a', ('neg', A)), ('--a', ('neg', ('neg', A))), ('-(a + b)', ('neg', op('+', A, B))),
    ('-(a * b)', ('neg', op('*', A, B))), ('-a * b', op('*', ('neg', A), B)), ('-a + b', op('+', ('neg', A), B)),
    ('a - -b', op('-', A, ('neg', B))), ('a * -b', op('*', A, ('neg', B))), ('-f(1)', ('neg', ('call', 'f', (ONE,)))),
    ('-1', ('neg', ONE)), ('a - (-b - c)', op('-', A, op('-', ('neg', B), C))),
)
# Steps' texts as they are told, and their trees by hand.
STEPS = (
    ('a = 1;', ('set', 'a', ONE)), ('say a + 1;', ('say', op('+', A, ONE))),
    ('if a { }', ('if', A, (), ())), ('if a == 1 { say 1; }', ('if', op('==', A, ONE), (('say', ONE),), ())),
    ('if a { say 1; say 2; } else { say a; }', ('if', A, (('say', ONE), ('say', TWO)), (('say', A),))),
    ('if a { } else { say 1; }', ('if', A, (), (('say', ONE),))),
    ('if a { } else if b { }', ('if', A, (), (('if', B, (), ()),))),
    ('if a { } else if b { } else if c { say 1; } else { say 2; }',
     ('if', A, (), (('if', B, (), (('if', C, (('say', ONE),), (('say', TWO),)),)),))),
    ('if a { } else { if b { } say 1; }', ('if', A, (), (('if', B, (), ()), ('say', ONE)))),
    ('if a { } else { say 1; if b { } }', ('if', A, (), (('say', ONE), ('if', B, (), ())))),
    ('if a { if b { } }', ('if', A, (('if', B, (), ()),), ())),
    ('if a { } else { while b { } }', ('if', A, (), (('while', B, ()),))),
    ('while a < 2 { a = a + 1; }', ('while', op('<', A, TWO), (('set', 'a', op('+', A, ONE)),))),
    ('while a { }', ('while', A, ())),
    ('def f() { }', ('def', 'f', (), ())), ('def f(a) { give a; }', ('def', 'f', ('a',), (('give', A),))),
    ('def f(a, b, c) { while a { give 1; } give f(1, 2); }',
     ('def', 'f', ('a', 'b', 'c'), (('while', A, (('give', ONE),)), ('give', ('call', 'f', (ONE, TWO)))))),
)
# Texts that are no programs, each by a word that is missing, another, or one too many.
NO_TEXTS = (
    'a', 'a =', 'a = 1', 'a = ;', '= 1;', 'a 1;', 'a == 1;', 'a = 1;;', ';', '1;', 'a;', 'f(1);', 'say', 'say 1',
    'say ;', 'say 1 2;', 'say 1;;', 'say say 1;', 'say = 1;', 'say a b;', 'say 1 +;', 'say + 1;',
    'say 1 + * 2;', 'say 1 = 2;',
    'say (1;', 'say 1);', 'say ();', 'say (1', 'say f(;', 'say f(1;', 'say f(1,);', 'say f(,1);', 'say f(1 2);',
    'say f(1))', 'say f)1;', 'say 1(2);', 'say -;', 'say if;', 'say {1};', 'if { }', 'if a', 'if a {', 'if a }',
    'if a { say 1 }', 'if a say 1;', 'if a { };', 'if a { } else', 'if a { } else say 1;', 'if a { } else {',
    'if a { } else { } else { }', 'if a { } else else { }', 'if a { } else while b { }', 'if a { } if', 'else { }',
    'if else { }', 'while { }', 'while a', 'while a {', 'while a { } else { }', '{ }', '{ say 1; }', '}', 'say 1; }',
    'def', 'def f', 'def f { }', 'def f()', 'def f( { }', 'def f) { }', 'def f(a { }', 'def f(a,) { }',
    'def f(,a) { }', 'def f(a b) { }', 'def f(1) { }', 'def f(if) { }', 'def f(a + b) { }', 'def 1() { }',
    'def say() { }', 'def f() { say 1 }', 'def f() say 1;', 'def (a) { }', 'def f() { give; }', 'give', 'a = 1, b = 2;',
    'say 1 a = 2;', 'if = 1;', 'a = def;', 'say (1 + 2;', 'say 1 + (2;', 'say ((1);',
)
# Rows of steps that are no programs.
NO_TREES = (
    'give 1;', 'if a { give 1; }', 'while a { say 1; give 1; }', 'if a { } else { give 1; }', 'if a { def f() { } }',
    'while a { def f() { } }', 'if a { } else { def f() { } }', 'def f() { def g() { } }',
    'def f() { if 1 { def g() { } } }', 'def f() { } def f() { }', 'def f() { } say 1; def g() { } def f(a) { }',
    'def f(a, a) { }', 'def f(a, b, a) { }',
)


def reader_of(text):
    return Reader(words_of(text))


def state(reader):
    return (reader.words, reader.place, list(reader.marks), list(reader.blocks))


def loose(tree):
    """Return a worth's words with brackets about each worth within it."""
    if tree[0] == 'op':
        return ['(', *loose(tree[2]), tree[1], *loose(tree[3]), ')']
    if tree[0] == 'neg':
        return ['-', '(', *loose(tree[1]), ')']
    if tree[0] == 'call':
        words = []
        for worth in tree[2]:
            words += [',', *loose(worth)]
        return [tree[1], '(', *words[1:], ')']
    return ['(', '(', str(tree[1]), ')', ')']


def spread_out(words, seed):
    """Return words with many gaps and remarks between."""
    dice = random.Random(seed)
    return ''.join(dice.choice((' ', '  ', '\n', ' \n\n ', ' # a { ;\n')) + word for word in words) + '\n '


def bracket_pairs(words):
    """Return the places of each pair of brackets about a worth: those that no name stands ahead of."""
    pairs, opened = [], []
    for place, (_, word, _) in enumerate(words):
        if word == '(':
            opened.append(place)
        elif word == ')':
            start = opened.pop()
            if start == 0 or words[start - 1][0] != 'name':
                pairs.append((start, place))
    return pairs


class Worths(unittest.TestCase):

    def test_worths_by_hand_are_told_and_read(self):
        for text, tree in TOLD:
            with self.subTest(text=text):
                self.assertEqual(told_worth(tree), text)
                self.assertEqual(read_worth(text), tree)
                self.assertTrue(tuples_throughout(read_worth(text)))

    def test_gaps_and_more_brackets_are_read_as_the_same(self):
        trees = [tree for _, tree in TOLD] + list(WORTHS) + [Maker(seed).worth(4) for seed in range(150)]
        for seed, tree in enumerate(trees):
            self.assertEqual(read_worth(told_worth(tree)), tree)
            self.assertEqual(read_worth(' '.join(loose(tree))), tree)
            self.assertEqual(read_worth(spread_out(loose(tree), seed)), tree)
            self.assertEqual(read_worth('((' + told_worth(tree) + '))'), tree)

    def test_each_pair_of_brackets_is_needed(self):
        pairs = 0
        for tree in [tree for _, tree in TOLD] + [Maker(seed).worth(4) for seed in range(300)]:
            words = words_of(told_worth(tree))
            for start, end in bracket_pairs(words):
                rest = [word for place, (_, word, _) in enumerate(words) if place not in (start, end)]
                pairs += 1
                try:
                    other = read_worth(' '.join(rest))
                except BadSign:
                    other = None
                self.assertNotEqual(other, tree, told_worth(tree))
        self.assertGreater(pairs, 100)

    def test_worths_with_words_behind_or_without_words_are_refused(self):
        for text in ('', ' # a', '1 2', '1;', 'a = 1', '1)', '(1', 'say 1', 'a b', '1 1', '{ 1 }', '+', '1 +', 'if',
                     'f(', 'f(1', 'f(1,)', 'f(,)', '()', '-', '1, 2', '01', '1 $'):
            with self.subTest(text=text), self.assertRaises(BadSign):
                read_worth(text)

    def test_told_from_a_rank_on(self):
        for deed, rank in (('==', 1), ('<', 1), ('+', 2), ('-', 2), ('*', 3)):
            for least in range(5):
                told = 'a ' + deed + ' b'
                self.assertEqual(told_from(op(deed, A, B), least), told if rank >= least else f'({told})')
        for least in range(5):
            self.assertEqual(told_from(A, least), 'a')
            self.assertEqual(told_from(('neg', op('+', A, B)), least), '-(a + b)')
            self.assertEqual(told_from(('call', 'f', (op('<', A, B),)), least), 'f(a < b)')

    def test_long_chains(self):
        for link in (' - 1', ' + 1 - 1', ' * 1', ' == 1', ' < 1 == 1', ' + 1 * 1'):
            chain = 'a' + link * 3000
            self.assertEqual(told_worth(read_worth(chain)), chain)
        self.assertEqual(len(all_worths(read_worth('a' + ' - 1' * 3000))), 6001)

    def test_deep_brackets(self):
        self.assertEqual(read_worth('(' * 150 + '1' + ')' * 150), ONE)
        self.assertEqual(told_worth(read_worth('-' * 150 + '1')), '-' * 150 + '1')


class Steps(unittest.TestCase):

    def test_steps_by_hand_are_told_and_read(self):
        for text, tree in STEPS:
            with self.subTest(text=text):
                self.assertEqual(told_step(tree), text)
                self.assertEqual(told_plain((tree,)), text)
                self.assertEqual(read(text), (tree,))
                self.assertTrue(tuples_throughout(read(text)))
        self.assertEqual(told_step(('give', ONE)), 'give 1;')

    def test_programs_told_and_read_again_are_the_same(self):
        for rows in [(), PROGRAM[:3], *programs(150)]:
            text = told_plain(rows)
            self.assertNotIn('\n', text)
            self.assertEqual(read(text), rows)
            words = [word for _, word, _ in words_of(text)]
            self.assertEqual(read(spread_out(words, len(text))), rows)
            self.assertTrue(is_text(text))

    def test_many_steps_in_one_row(self):
        rows = tuple(tree for _, tree in STEPS[:5])
        self.assertEqual(told_plain(rows), ' '.join(text for text, _ in STEPS[:5]))
        self.assertEqual(told_plain(list(rows)), told_plain(rows))
        self.assertEqual(told_block(rows), '{ ' + told_plain(rows) + ' }')
        self.assertEqual(told_plain(()), '')
        self.assertEqual(told_block(()), '{ }')
        self.assertEqual(read(''), ())
        self.assertEqual(read(' \n# a\n'), ())

    def test_other_texts_of_the_same_steps(self):
        for text, tree in (
                ('if a { } else { }', ('if', A, (), ())),
                ('if a { } else { # nothing\n}', ('if', A, (), ())),
                ('if a { } else { if b { } }', ('if', A, (), (('if', B, (), ()),))),
                ('if a { } else if b { } else { }', ('if', A, (), (('if', B, (), ()),))),
                ('if a { } else { if b { } else { say 1; } }', ('if', A, (), (('if', B, (), (('say', ONE),)),))),
                ('while(a){}', ('while', A, ())), ('say(1);', ('say', ONE)), ('say-1;', ('say', ('neg', ONE))),
                ('a=(1)+2 ;', ('set', 'a', op('+', ONE, TWO))), ('say f (1);', ('say', ('call', 'f', (ONE,))))):
            with self.subTest(text=text):
                self.assertEqual(read(text), (tree,))

    def test_texts_that_are_no_programs(self):
        for text in NO_TEXTS + ('say 01;', 'say 1 / 2;', 'Say 1;'):
            for whole in (text, 'say 1; ' + text):
                with self.subTest(text=whole):
                    with self.assertRaises(BadSign):
                        read(whole)
                    self.assertFalse(is_text(whole))

    def test_steps_that_are_no_programs(self):
        for text in NO_TREES:
            with self.subTest(text=text):
                with self.assertRaises(BadTree):
                    read(text)
                self.assertFalse(is_text(text))
        # The words come first: a text that isn't read to its end is no tree.
        with self.assertRaises(BadSign):
            read('give 1; say')
        self.assertTrue(is_text(''))
        self.assertTrue(is_text('def f(a) { give a; } say f(1);'))


class Readers(unittest.TestCase):

    def test_fields_at_the_beginning(self):
        words = words_of('say 1;')
        reader = Reader(list(words))
        self.assertEqual(state(reader), (words, 0, [], []))
        self.assertIsInstance(reader.words, tuple)
        self.assertEqual(state(Reader(())), ((), 0, [], []))

    def test_words_one_by_one(self):
        reader = reader_of('if ab 12 == # a')
        for kind, word in (('key', 'if'), ('name', 'ab'), ('number', '12'), ('mark', '==')):
            self.assertEqual((reader.kind(), reader.peek()), (kind, word))
            self.assertIsNone(reader.take(word))
        self.assertEqual((reader.kind(), reader.peek(), reader.place), ('', '', 4))
        with self.assertRaises(BadSign):
            reader.take('if')
        with self.assertRaises(BadSign):
            reader.name()

    def test_names(self):
        reader = reader_of('ab b2 say')
        self.assertEqual((reader.name(), reader.place), ('ab', 1))
        self.assertEqual((reader.name(), reader.place), ('b2', 2))
        for text in ('say', '1', '=', ''):
            with self.subTest(text=text), self.assertRaises(BadSign):
                reader_of(text).name()

    def test_parts_and_where_they_end(self):
        for part, text, found, place in (
                ('read_block', '{ } say', (), 2), ('read_block', '{ say 1; say a; } }', (('say', ONE), ('say', A)), 8),
                ('read_step', 'say 1; say 2;', ('say', ONE), 3), ('step_itself', 'a = 1; say 2;', ('set', 'a', ONE), 4),
                ('read_step', 'give 1; 2', ('give', ONE), 3),
                ('step_itself', 'if a { } else { } else', ('if', A, (), ()), 7),
                ('step_itself', 'def f(a, a) { } b', ('def', 'f', ('a', 'a'), ()), 9),
                ('follow', '{ say 1; } else', (('say', ONE),), 5), ('follow', '{ } else', (), 2),
                ('follow', 'if a { } else { } say', (('if', A, (), ()),), 7),
                ('params', '() {', (), 2), ('params', '(a) b', ('a',), 3),
                ('params', '(a, b, a) {', ('a', 'b', 'a'), 7),
                ('single', '12 + 1', ('num', 12), 1), ('single', 'a * 2', A, 1), ('single', '-a * b', ('neg', A), 2),
                ('single', '(a + b) * c', op('+', A, B), 5), ('single', 'f(1, a)(b)', ('call', 'f', (ONE, A)), 6),
                ('single', '- - 1', ('neg', ('neg', ONE)), 3)):
            with self.subTest(part=part, text=text):
                reader = reader_of(text)
                self.assertEqual(getattr(reader, part)(), found)
                self.assertEqual(reader.place, place)

    def test_worths_of_a_rank_or_more(self):
        for rank, text, found, place in (
                (1, 'a == b < c;', op('<', op('==', A, B), C), 5),
                (1, 'a + b * c == 1 {', op('==', op('+', A, op('*', B, C)), ONE), 7),
                (2, 'a + b == c', op('+', A, B), 3), (2, 'a * b - c < 1', op('-', op('*', A, B), C), 5),
                (2, 'a == b', A, 1), (3, 'a * b * c + 1', op('*', op('*', A, B), C), 5), (3, 'a + b', A, 1),
                (4, 'a * b', A, 1), (4, '(a * b) * c', op('*', A, B), 5), (1, 'a = b', A, 1), (0, 'a, b', A, 1),
                (1, 'a b', A, 1)):
            with self.subTest(rank=rank, text=text):
                reader = reader_of(text)
                self.assertEqual(reader.worth(rank), found)
                self.assertEqual(reader.place, place)

    def test_marks_and_blocks_by_hand(self):
        # Words:  0  1 2 3   4 5 6 7    8 9   10 11 12 13   14 15 16 17 18 19
        text = 'if a { say 1; } else if b { } else { while c { a = 1; } } say 1;'
        words = [word for _, word, _ in words_of(text)]
        reader = reader_of(text)
        tree = reader.read_step()
        self.assertEqual(tree[3][0][3][0][0], 'while')
        last = reader.place
        self.assertEqual(words[last], 'say')
        self.assertEqual([words[first] for first, _ in reader.marks], ['if', 'say', 'if', 'while', 'a'])
        self.assertEqual([behind for _, behind in reader.marks], [last, 6, last, last - 1, last - 2])
        self.assertEqual(reader.blocks, [(3, 6), (-1, -1), (11, 11), (14, 22), (17, 21)])
        self.assertEqual([words[behind] for _, behind in reader.blocks if behind >= 0], ['}'] * 4)
        reader.read_step()
        self.assertEqual(reader.marks[5], (last, last + 3))

    def test_a_bare_block_behind_an_else_is_none(self):
        for text, blocks in (('if a { } else { }', [(3, 3)]), ('if a { } else { say 1; }', [(3, 3), (6, 9)]),
                             ('if a { } else if b { } else { }', [(3, 3), (-1, -1), (8, 8)]),
                             ('if a { } else { if b { } else { } }', [(3, 3), (6, 13), (9, 9)]),
                             ('while a { if b { } else { } }', [(3, 10), (6, 6)]), ('def f() { }', [(5, 5)]),
                             ('def f(a) { say a; }', [(6, 9)]), ('say 1;', [])):
            with self.subTest(text=text):
                reader = reader_of(text)
                reader.read_step()
                self.assertEqual(reader.blocks, blocks)

    def test_what_marks(self):
        reader = reader_of('say 1; say 2;')
        reader.step_itself()
        self.assertEqual(reader.marks, [])
        reader.read_step()
        self.assertEqual(reader.marks, [(3, 6)])
        reader = reader_of('{ say 1; } { }')
        reader.read_block()
        reader.read_block()
        self.assertEqual((reader.marks, reader.blocks), ([(1, 4)], [(1, 4), (6, 6)]))
        reader = reader_of('if a { }')
        reader.follow()
        self.assertEqual((reader.marks, reader.blocks), ([(0, 4)], [(-1, -1), (3, 3)]))

    def test_what_is_refused_changes_nothing(self):
        for part, text in (('read_block', '{ say 1; if a { say 2; } else { } say }'), ('read_block', '{ say 1;'),
                           ('read_block', 'say'), ('read_step', 'while a { say 1; if b { } else if c { say } }'),
                           ('read_step', 'a = 1 b'), ('step_itself', 'if a { say 1; } else { say 2; ; }'),
                           ('step_itself', 'def f(a, ) { }'), ('step_itself', ''), ('follow', 'if a { say 1; } else'),
                           ('follow', 'else { }'), ('follow', '{ say 1; '), ('follow', 'say 1;'), ('params', '(a, b'),
                           ('params', 'a'), ('params', '(a, say)'), ('single', '(a + b'), ('single', 'f(1, 2 3)'),
                           ('single', '- - +'), ('single', ')'), ('name', 'if'), ('single', '')):
            with self.subTest(part=part, text=text):
                reader = reader_of('say 1; while a { } ' + text)
                reader.read_step()
                reader.read_step()
                before = state(reader)
                with self.assertRaises(BadSign):
                    getattr(reader, part)()
                self.assertEqual(state(reader), before)
        for rank in range(5):
            reader = reader_of('say (a + b')
            reader.take('say')
            before = state(reader)
            with self.assertRaises(BadSign):
                reader.worth(rank)
            with self.assertRaises(BadSign):
                reader.take('say')
            self.assertEqual(state(reader), before)


if __name__ == '__main__':
    unittest.main()
