"""Points 1 and 7: programs told neat, their heads as pieces, and remarks in their slots."""

import random
import unittest

from helper import tuples_throughout
from making import Maker, programs
from neatwright.errors import BadSign, BadSize, BadTree
from neatwright.layouts import check_best, cost, flat_text, groups_in, laid, ways
from neatwright.reads import Reader, read, read_rows, read_worth, told_plain, told_worth
from neatwright.shapes import (Shaper, Slots, head_piece, is_neat, may_hold, neat, neat_rows, slots_of, worth_piece)
from neatwright.signs import remarks_of, words_of
from neatwright.trees import all_steps, blocks_of

# Texts and how they are told neat at the widths that are left out.
NEAT = (
    ('', ''), (' \n ', ''), ('say 1;', 'say 1;\n'), ('a=1;b = 2 ;', 'a = 1;\nb = 2;\n'),
    ('if a{say 1;}', 'if a {\n    say 1;\n}\n'), ('if a { }', 'if a {\n}\n'), ('if a { } else { }', 'if a {\n}\n'),
    ('while a<1{}', 'while a < 1 {\n}\n'), ('def f(){}', 'def f() {\n}\n'),
    ('def f(a,b){give a;}say f(1,2);', 'def f(a, b) {\n    give a;\n}\nsay f(1, 2);\n'),
    ('if a { say 1; } else { say 2; say 3; }', 'if a {\n    say 1;\n} else {\n    say 2;\n    say 3;\n}\n'),
    ('if a { } else { if b { } }', 'if a {\n} else if b {\n}\n'),
    ('if a { } else if b { say 1; } else if c { } else { say 2; }',
     'if a {\n} else if b {\n    say 1;\n} else if c {\n} else {\n    say 2;\n}\n'),
    ('if a { } else { if b { } say 1; }', 'if a {\n} else {\n    if b {\n    }\n    say 1;\n}\n'),
    ('if a { } else { while b { } }', 'if a {\n} else {\n    while b {\n    }\n}\n'),
    ('while a { if b { while c { say 1; } } say 2; }',
     'while a {\n    if b {\n        while c {\n            say 1;\n        }\n    }\n    say 2;\n}\n'),
    ('say((1+2))*3;', 'say (1 + 2) * 3;\n'),
    # Remarks: ahead, behind, at a block's end, at the end.
    ('#a', '#a\n'), ('# a  \n\n\n  # b', '# a\n# b\n'), ('#', '#\n'),
    ('say 1; # a', 'say 1;  # a\n'), ('say 1;\n# a', 'say 1;\n# a\n'), ('# a\nsay 1;', '# a\nsay 1;\n'),
    ('say 1;# a\nsay 2;#b', 'say 1;  # a\nsay 2;  #b\n'), ('say 1; # a\n# b\nsay 2;', 'say 1;  # a\n# b\nsay 2;\n'),
    ('say 1;\n# a\n# b\nsay 2; # c\n# d', 'say 1;\n# a\n# b\nsay 2;  # c\n# d\n'),
    ('say # a\n1;', 'say 1;\n# a\n'), ('say 1 # a\n; # b\nsay 2;', 'say 1;\n# a\n# b\nsay 2;\n'),
    ('say # a\n1; # b\nsay 2; # c', 'say 1;\n# a\n# b\nsay 2;  # c\n'),
    ('if a { # a\nsay 1; }', 'if a {\n    # a\n    say 1;\n}\n'), ('if a { # a\n}', 'if a {\n    # a\n}\n'),
    ('if # a\na { }', 'if a {\n    # a\n}\n'), ('if a # a\n{ say 1; }', 'if a {\n    # a\n    say 1;\n}\n'),
    ('if a { say 1; # a\n# b\n} # c', 'if a {\n    say 1;  # a\n    # b\n}\n# c\n'),
    ('if a { say 1; }\n# a\nelse { say 2; }', 'if a {\n    say 1;\n} else {\n    # a\n    say 2;\n}\n'),
    ('if a { say 1; } # a\n else # b\n { # c\n say 2; # d\n }',
     'if a {\n    say 1;\n} else {\n    # a\n    # b\n    # c\n    say 2;  # d\n}\n'),
    ('if a { } # a\nelse { }', 'if a {\n}\n# a\n'), ('if a { } else { # a\n} say 1;', 'if a {\n}\n# a\nsay 1;\n'),
    ('while a { } # a\nsay 1;', 'while a {\n}\n# a\nsay 1;\n'), ('def f( # a\n) { }', 'def f() {\n    # a\n}\n'),
    # About an if alone behind an else there are slots ahead of it, and at its block's end.
    ('if a { } else # a\nif b { }', 'if a {\n} else {\n    # a\n    if b {\n    }\n}\n'),
    ('if a { } # a\nelse if b { }', 'if a {\n} else {\n    # a\n    if b {\n    }\n}\n'),
    ('if a { } else { if b { } # a\n }', 'if a {\n} else {\n    if b {\n    }\n    # a\n}\n'),
    ('if a { } else if b { } # a', 'if a {\n} else if b {\n}\n# a\n'),
    ('if a { } else { if b { # a\n } }', 'if a {\n} else if b {\n    # a\n}\n'),
    ('if a { } else if # a\nb { say 1; # b\n}', 'if a {\n} else if b {\n    # a\n    say 1;  # b\n}\n'),
    ('if a { } else if b { } else # a\nif c { } # b',
     'if a {\n} else if b {\n} else {\n    # a\n    if c {\n    }\n}\n# b\n'),
    ('if a { } else { # a\nif b { } else if c { } }',
     'if a {\n} else {\n    # a\n    if b {\n    } else if c {\n    }\n}\n'),
)
# Worths, and how a say of each is told at small widths.
BROKEN = (
    ('aa + bb - cc', 17, 'say aa + bb - cc;'), ('aa + bb - cc', 16, 'say aa\n    + bb\n    - cc;'),
    ('aa + bb * cc', 14, 'say aa\n    + bb * cc;'), ('aa + bb - cc', 12, 'say aa\n    + bb\n    - cc;'),
    ('aa * bb + cc', 11, 'say aa * bb\n    + cc;'), ('aa * bb == cc < d', 12, 'say aa * bb\n    == cc\n    < d;'),
    ('aa * (bb + cc)', 16, 'say aa\n    * (bb + cc);'),
    ('aa * (bb + cc)', 9, 'say aa\n    * (bb\n        + cc);'),
    ('f(aa, bb, cc)', 15, 'say f(\n    aa,\n    bb,\n    cc\n);'), ('f(aa, bb, cc)', 18, 'say f(aa, bb, cc);'),
    ('f(aa, g(b, c), dd)', 14, 'say f(\n    aa,\n    g(b, c),\n    dd\n);'),
    ('f(aa, gg(bb, cc))', 11, 'say f(\n    aa,\n    gg(\n        bb,\n        cc\n    )\n);'),
    ('f(aa + bb)', 9, 'say f(\n    aa + bb\n);'),
    ('f(aaaaaaaa + bb)', 12, 'say f(\n    aaaaaaaa\n        + bb\n);'), ('-(aa + bb)', 8, 'say -(aa\n    + bb);'),
    ('aaaaaaaaaaaaaaaa', 3, 'say aaaaaaaaaaaaaaaa;'), ('f()', 1, 'say f();'),
    ('aa + f(bb, cc) + dd', 15, 'say aa\n    + f(bb, cc)\n    + dd;'),
)


def chained(tree):
    """Return how many groups a worth has by point 7: its calls with worths, and its chains of one rank."""
    count = 0
    if tree[0] == 'call':
        count = len(tree[2]) > 0
        inner = tree[2]
    elif tree[0] == 'op':
        rank = {'==': 1, '<': 1, '+': 2, '-': 2, '*': 3}
        inner = []
        here = tree
        while here[0] == 'op' and rank[here[1]] == rank[tree[1]]:
            inner.append(here[3])
            here = here[2]
        inner.append(here)
        count = 1
    else:
        inner = tree[1:] if tree[0] == 'neg' else ()
    return count + sum(chained(one) for one in inner)


def remarked(rows, seed):
    """Return a program's text with remarks, gaps and row's ends between its words."""
    dice = random.Random(seed)
    parts = []
    for number, (_, word, _) in enumerate(words_of(told_plain(rows))):
        parts.append(dice.choice((' ', ' ', ' ', '\n', '  ', f' # {number} \n', f'\n# {number}\n', f'#{number}\n#\n')))
        parts.append(word)
    return ''.join(parts) + dice.choice(('', '\n', '# end', ' # end\n\n', '\n# one\n # two '))


class Heads(unittest.TestCase):

    def test_worths_in_one_row(self):
        for seed in range(200):
            tree = Maker(seed).worth(4)
            piece = worth_piece(tree, 1, 3)
            self.assertEqual(flat_text(piece), told_worth(tree))
            self.assertEqual(groups_in(piece), chained(tree))
            self.assertTrue(tuples_throughout(piece))

    def test_worths_from_a_rank_on(self):
        for text, rank in (('a + b', 2), ('a - b', 2), ('a == b', 1), ('a < b', 1), ('a * b', 3)):
            for least in range(1, 5):
                piece = worth_piece(read_worth(text), least, 4)
                self.assertEqual(flat_text(piece), text if rank >= least else f'({text})')
                self.assertEqual(groups_in(piece), 1)
        for text in ('a', '12', '-a', 'f()', 'f(a + b)'):
            for least in range(1, 5):
                self.assertEqual(flat_text(worth_piece(read_worth(text), least, 4)), text)

    def test_worths_broken(self):
        for text, inward, told in (
                ('a + b - c', 2, 'a\n  + b\n  - c'), ('a * b', 1, 'a\n * b'), ('f(a, b)', 3, 'f(\n   a,\n   b\n)'),
                ('a == b < c', 4, 'a\n    == b\n    < c'), ('a - (b - c)', 2, 'a\n  - (b\n    - c)'),
                ('f(a + b, g())', 2, 'f(\n  a\n    + b,\n  g()\n)'), ('a * b + c', 2, 'a\n  * b\n  + c'),
                ('a + b * c', 2, 'a\n  + b\n    * c'), ('-f(a)', 2, '-f(\n  a\n)')):
            with self.subTest(text=text):
                piece = worth_piece(read_worth(text), 1, inward)
                self.assertEqual(laid(piece, (1,) * groups_in(piece)), told)

    def test_heads(self):
        for text, flat, broken in (
                ('say a + b;', 'say a + b;', 'say a\n  + b;'), ('a = f(1);', 'a = f(1);', 'a = f(\n  1\n);'),
                ('if a < b { say 1; }', 'if a < b {', 'if a\n  < b {'), ('while a { }', 'while a {', 'while a {'),
                ('def f() { }', 'def f() {', 'def f() {'), ('def f(a) { say a; }', 'def f(a) {', 'def f(\n  a\n) {'),
                ('def f(a, b) { }', 'def f(a, b) {', 'def f(\n  a,\n  b\n) {')):
            with self.subTest(text=text):
                piece = head_piece(read(text)[0], 2)
                self.assertEqual(flat_text(piece), flat)
                self.assertEqual(laid(piece, (1,) * groups_in(piece)), broken)
                self.assertTrue(tuples_throughout(piece))
        give = head_piece(('give', read_worth('a * b')), 3)
        self.assertEqual((flat_text(give), laid(give, (1,))), ('give a * b;', 'give a\n   * b;'))


class Neat(unittest.TestCase):

    def test_texts_by_hand(self):
        for text, told in NEAT:
            with self.subTest(text=text):
                self.assertEqual(neat(text), told)
                self.assertEqual(neat(told), told)
                self.assertTrue(is_neat(told))
                self.assertIs(is_neat(text), text == told)
                if '#' not in text:
                    self.assertEqual(neat_rows(read(text)), told)

    def test_broken_worths(self):
        for text, width, told in BROKEN:
            with self.subTest(text=text, width=width):
                self.assertEqual(neat(f'say {text};', width), told + '\n')

    def test_room_within_blocks(self):
        inner = 'if a { say aa + bb; }'
        self.assertEqual(neat(inner, 16), 'if a {\n    say aa + bb;\n}\n')
        self.assertEqual(neat(inner, 15), 'if a {\n    say aa\n        + bb;\n}\n')
        self.assertEqual(neat(inner, 14, 2), 'if a {\n  say aa + bb;\n}\n')
        self.assertEqual(neat(inner, 13, 2), 'if a {\n  say aa\n    + bb;\n}\n')
        # No room at all isn't a room of one: there nothing is won by a break.
        self.assertEqual(neat('say a + b;', 1, 1), 'say a\n + b;\n')
        self.assertEqual(neat('while a { say a + b; }', 1, 1), 'while a {\n say a + b;\n}\n')
        # Where blocks stand in by more than the width there is no room, not less than none.
        deep = 'while a { while a { say a + b; } }'
        self.assertEqual(neat(deep, 3, 2), neat(deep, 4, 2))
        self.assertEqual(neat(deep, 1, 9), 'while a {\n' + ' ' * 9 + 'while a {\n' + ' ' * 18 + 'say a + b;\n'
                         + ' ' * 9 + '}\n}\n')

    def test_words_behind_an_else_take_room(self):
        text = 'if a { } else if a + b { }'
        self.assertEqual(neat(text, 17), 'if a {\n} else if a + b {\n}\n')
        self.assertEqual(neat(text, 16), 'if a {\n} else if a\n    + b {\n}\n')
        within = 'while a { if a { } else if a + b { } }'
        self.assertEqual(neat(within, 21), 'while a {\n    if a {\n    } else if a + b {\n    }\n}\n')
        self.assertEqual(neat(within, 20), 'while a {\n    if a {\n    } else if a\n        + b {\n    }\n}\n')

    def test_params_broken(self):
        self.assertEqual(neat('def f(aa, bb) { }', 15), 'def f(aa, bb) {\n}\n')
        self.assertEqual(neat('def f(aa, bb) { }', 14), 'def f(\n    aa,\n    bb\n) {\n}\n')

    def test_a_remark_behind_a_broken_step(self):
        self.assertEqual(neat('say aa + bb; # why\nsay 1;', 8), 'say aa\n    + bb;  # why\nsay 1;\n')
        # A remark takes no room: its step isn't broken for it.
        self.assertEqual(neat('say aa + bb; # why so long', 12), 'say aa + bb;  # why so long\n')

    def test_made_programs_without_remarks(self):
        for seed, rows in enumerate(programs(80)):
            for width, inward in ((60, 4), (20, 4), (7, 1), (1, 3)):
                told = neat_rows(rows, width, inward)
                self.assertEqual(read(told), rows)
                self.assertEqual(neat(told, width, inward), told)
                self.assertEqual(neat(told_plain(rows), width, inward), told)
                self.assertTrue(is_neat(told, width, inward))
                self.assertTrue(all(row == row.rstrip(' ') and row != '' for row in told.split('\n')[:-1]))
            self.assertEqual(neat_rows(list(rows)), neat_rows(rows))

    def test_made_programs_with_remarks(self):
        for seed, rows in enumerate(programs(120, 2)):
            text = remarked(rows, seed)
            for width, inward in ((60, 4), (12, 2), (1, 1)):
                told = neat(text, width, inward)
                self.assertEqual(read(told), rows)
                self.assertEqual([remark for _, remark, _ in remarks_of(told)],
                                 [remark for _, remark, _ in remarks_of(text)])
                self.assertEqual(neat(told, width, inward), told)
                self.assertTrue(is_neat(told, width, inward))

    def test_no_heads_rows_cost_more_than_another_way(self):
        checked = 0
        for rows in programs(60, 3):
            for step in all_steps(rows):
                piece = head_piece(step, 2)
                if len(blocks_of(step)) == 0 and len(ways(piece)) < 200 and step[0] != 'give':
                    for width in (1, 9, 14, 22):
                        told = neat_rows((step,), width, 2)[:-1]
                        self.assertEqual(check_best(piece, width, told), cost(told, width))
                        checked += 1
        self.assertGreater(checked, 400)

    def test_left_out_arguments(self):
        rows = read('while a { say aaaaaaaaaaaaaaaaaaaa + bbbbbbbbbbbbbbbbbbbbbbbbbbbb; }')
        text = told_plain(rows)
        self.assertEqual(neat_rows(rows), neat_rows(rows, 60, 4))
        self.assertEqual(neat(text), neat(text, 60, 4))
        self.assertEqual(len(neat(text).split('\n')[1]), 60)
        self.assertEqual(neat(text, 59).split('\n')[1:3],
                         ['    say aaaaaaaaaaaaaaaaaaaa', '        + bbbbbbbbbbbbbbbbbbbbbbbbbbbb;'])
        self.assertTrue(is_neat(neat(text)))
        self.assertFalse(is_neat(neat(text), 59))
        self.assertFalse(is_neat(neat(text), 60, 3))

    def test_what_is_not_neat(self):
        for text in ('say 1;', 'say 1; \n', ' say 1;\n', 'say  1;\n', 'say 1;\n\n', '\nsay 1;\n', 'say 1; # a\n',
                     'if a {\n  say 1;\n}\n', 'if a { }\n', 'say (1);\n', '\n', ' ', '# a', 'if a {\n} else {\n}\n',
                     'if a {\n}\nelse {\n    say 1;\n}\n', 'if a {\n} else {\n    if b {\n    }\n}\n'):
            with self.subTest(text=text):
                self.assertFalse(is_neat(text))

    def test_what_is_refused(self):
        for width, inward in ((0, 4), (60, 0), (-1, 4), (60, -4), (0, 0)):
            with self.subTest(width=width, inward=inward):
                for deed, given in ((neat, 'say 1;'), (neat, ''), (is_neat, ''), (neat_rows, ()), (neat_rows, ((),))):
                    with self.assertRaises(BadSize):
                        deed(given, width, inward)
                with self.assertRaises(BadSize):
                    Shaper(width, inward, {})
        for deed in (neat, is_neat, slots_of):
            for text in ('say', 'say 1', '$', 'say 01;', 'if a { # }'):
                with self.subTest(text=text), self.assertRaises(BadSign):
                    deed(text)
            for text in ('give 1;', 'def f() { } def f() { }', 'while a { def f() { } } # a'):
                with self.subTest(text=text), self.assertRaises(BadTree):
                    deed(text)
        for rows in ((('give', ('num', 1)),), (('say', 1),), 3):
            with self.assertRaises(BadTree):
                neat_rows(rows)


class Slotted(unittest.TestCase):

    def slots(self, text):
        reader = Reader(words_of(text))
        rows = read_rows(reader)
        return Slots(rows, reader)

    def test_slots_in_the_texts_order(self):
        # Words: 0   1 2   3 4 5 6   7    8   9 10 11  12   13  14
        text = 'a = 1; if a { say 1; } else if b { } else { while c { } say 2; } def f() { }'
        words = [word for _, word, _ in words_of(text)]
        made = self.slots(text)
        found = made.found
        self.assertEqual(found[:4], [(('ahead', 0), 0), (('behind', 0), 4), (('ahead', 1), 4), (('ahead', 2), 7)])
        self.assertEqual([slot for slot, _ in found[4:]],
                         [('behind', 2), ('end', 0), ('ahead', 3), ('end', 2), ('ahead', 4), ('end', 4), ('ahead', 5),
                          ('behind', 5), ('end', 3), ('end', 1), ('ahead', 6), ('end', 5), ('end', 'all')])
        table = dict(found)
        self.assertEqual(table[('end', 1)], -1)
        self.assertEqual(table[('end', 'all')], len(words))
        for slot, place in found[:-1]:
            if slot[0] == 'end' and place >= 0:
                self.assertEqual(words[place], '}', slot)
        self.assertEqual([words[table[('ahead', step)]] for step in range(7)],
                         ['a', 'if', 'say', 'if', 'while', 'say', 'def'])
        self.assertEqual([table[('behind', step)] - table[('ahead', step)] for step in (0, 2, 5)], [4, 3, 3])
        self.assertEqual((made.step, made.block), (7, 6))
        self.assertEqual(made.reader.place, len(words))

    def test_slots_of_little(self):
        self.assertEqual(self.slots('').found, [(('end', 'all'), 0)])
        self.assertEqual(self.slots('say 1;').found, [(('ahead', 0), 0), (('behind', 0), 3), (('end', 'all'), 3)])
        self.assertEqual(self.slots('if a { } else { }').found,
                         [(('ahead', 0), 0), (('end', 0), 3), (('end', 'all'), 7)])
        self.assertEqual(self.slots('if a { } else { say 1; }').found,
                         [(('ahead', 0), 0), (('end', 0), 3), (('ahead', 1), 6), (('behind', 1), 9), (('end', 1), 9),
                          (('end', 'all'), 10)])

    def test_slots_put_in_by_parts(self):
        reader = Reader(words_of('if a { say 1; } say 2;'))
        rows = read_rows(reader)
        made = Slots((), reader)
        self.assertEqual((made.found, made.step, made.block), ([(('end', 'all'), 10)], 0, 0))
        made.slot_steps(rows[:1])
        self.assertEqual(made.found[1:], [(('ahead', 0), 0), (('ahead', 1), 3), (('behind', 1), 6), (('end', 0), 6)])
        made = Slots((), reader)
        made.inside(())
        self.assertEqual((made.found[1:], made.step, made.block), ([(('end', 0), 6)], 0, 1))

    def test_remarks_of_slots(self):
        text = ('# a\n# b\nsay 1; # c\n# d\nif a { # e\n } # f\nelse { say 2; # g\n } # h\n'
                'if a { } else if b { } # i\n # j')
        rows, table = slots_of(text)
        self.assertEqual(rows, read(text))
        self.assertEqual(table, {('ahead', 0): ('# a', '# b'), ('behind', 0): ('# c',), ('ahead', 1): ('# d',),
                                 ('end', 0): ('# e',), ('ahead', 2): ('# f',), ('behind', 2): ('# g',),
                                 ('ahead', 3): ('# h',), ('end', 'all'): ('# i', '# j')})
        self.assertIsInstance(slots_of(text), tuple)
        self.assertEqual(slots_of(''), ((), {}))
        self.assertEqual(slots_of('# a'), ((), {('end', 'all'): ('# a',)}))
        self.assertEqual(slots_of('say 1;')[1], {})
        self.assertEqual(slots_of('if a { } else { if b { } # a\n}')[1], {('end', 1): ('# a',)})
        self.assertEqual(slots_of('if a { } else if b { } # a\n')[1], {('end', 'all'): ('# a',)})

    def test_what_a_slot_may_hold(self):
        for slot, ahead, alone, table, answer in (
                ((('ahead', 0), 3), 3, True, {}, True), ((('ahead', 0), 3), 2, False, {}, True),
                ((('ahead', 0), 3), 4, True, {}, False), ((('ahead', 0), 3), 3, True, {('ahead', 0): ('# a',)}, True),
                ((('end', 2), 3), 3, False, {}, True), ((('end', 2), 3), 4, False, {}, False),
                ((('end', 2), -1), 0, True, {}, False), ((('end', 'all'), 9), 9, True, {('end', 'all'): ('#',)}, True),
                ((('behind', 1), 3), 3, False, {}, True), ((('behind', 1), 3), 3, True, {}, False),
                ((('behind', 1), 3), 2, False, {}, False), ((('behind', 1), 3), 4, False, {}, False),
                ((('behind', 1), 3), 3, False, {('behind', 1): ('# a',)}, False),
                ((('behind', 1), 3), 3, False, {('behind', 2): ('# a',), ('ahead', 1): ('# b',)}, True)):
            with self.subTest(slot=slot, ahead=ahead, alone=alone):
                self.assertIs(may_hold(slot, ahead, alone, table), answer)


class Shapers(unittest.TestCase):

    def test_fields_at_the_beginning(self):
        table = {('ahead', 0): ('# a',)}
        made = Shaper(20, 3, table)
        self.assertEqual((made.width, made.inward, made.remarks), (20, 3, table))
        self.assertEqual((made.step, made.block, made.rows), (0, 0, []))
        self.assertEqual(Shaper(1, 1, {}).rows, [])

    def test_rows_put_in(self):
        made = Shaper(20, 3, {('ahead', 0): ('# a', '# b'), ('end', 'all'): ['# c']})
        self.assertIsNone(made.put('ab', 0))
        made.put('c\n  d', 2)
        self.assertEqual(made.rows, ['ab', '      c', '        d'])
        made.notes(('ahead', 0), 1)
        made.notes(('ahead', 1), 1)
        made.notes(('end', 'all'), 0)
        self.assertEqual(made.rows[3:], ['   # a', '   # b', '# c'])

    def test_heads_put_in(self):
        piece = head_piece(read('say aa + bb;')[0], 2)
        for width, deep, rows in ((12, 0, ['say aa + bb;']), (11, 0, ['say aa', '  + bb;']),
                                  (13, 1, ['  say aa', '    + bb;']), (14, 1, ['  say aa + bb;']),
                                  (1, 3, ['      say aa + bb;'])):
            made = Shaper(width, 2, {})
            made.head(piece, deep)
            self.assertEqual(made.rows, rows)

    def test_steps_put_in(self):
        made = Shaper(60, 2, {('behind', 1): ('# a',), ('end', 0): ('# b',), ('ahead', 2): ('# c',)})
        made.put_steps(read('while a { say 1; } say 2;'), 1)
        self.assertEqual(made.rows, ['  while a {', '    say 1;  # a', '    # b', '  }', '  # c', '  say 2;'])
        self.assertEqual((made.step, made.block), (3, 1))
        made = Shaper(60, 2, {})
        made.one(read('if a { } else if b { say 1; }')[0], 1, '} else ')
        self.assertEqual(made.rows, ['  } else if a {', '  } else if b {', '    say 1;', '  }'])
        self.assertEqual((made.step, made.block), (3, 3))
        made = Shaper(60, 2, {('end', 0): ('# a',)})
        made.inside(read('say 1;'), 1)
        self.assertEqual((made.rows, made.step, made.block), (['  say 1;', '  # a'], 1, 1))

    def test_ifs_alone(self):
        alone, other = read('if a { }'), read('while a { }')
        made = Shaper(60, 2, {('ahead', 1): ('# a',), ('end', 2): ('# b',), ('ahead', 3): (), ('end', 3): ()})
        for step, block, answer in ((0, 0, True), (1, 0, False), (0, 2, False), (1, 2, False), (2, 1, True),
                                    (3, 3, True)):
            made.step, made.block = step, block
            self.assertIs(made.is_chained(alone), answer)
            for steps in ((), other, alone + alone, alone + other):
                self.assertIs(made.is_chained(steps), False)


if __name__ == '__main__':
    unittest.main()
