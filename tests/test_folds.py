"""Point 11: folds, which say the same, go on till nothing more folds, and are told with their reasons."""

import unittest

from helper import OUTER_STEPS, PROGRAM, tuples_throughout
from making import Maker, programs
from neatwright.errors import BadPaper, BadTree, NoSuch
from neatwright.folds import (behind_give, check_folds, ends, folded, folded_worth, is_folded, is_free, is_number,
                              next_fold, number_of, number_tree, step_fold)
from neatwright.reads import read, read_worth, told_plain, told_worth
from neatwright.runs import said, value_of
from neatwright.trees import all_ways, at_way, blocks_of, put_at, with_blocks
from oracle import carried_out

BIG = 10 ** 15
NO_PROGRAMS = ((('give', ('num', 1)),), (('say', 1),), read('def f() { }') * 2,
               (('while', ('num', 0), read('def f() { }')),), (('set', 'a'),))


def number(tree):
    """Return a number, turned about once or not, as Python's own; None for another worth."""
    if tree[0] == 'num':
        return tree[1]
    return -tree[1][1] if tree[0] == 'neg' and tree[1][0] == 'num' else None


def fold(tree):
    """Return a worth folded, as the test goes about it."""
    if tree[0] == 'call':
        return ('call', tree[1], tuple(fold(one) for one in tree[2]))
    if tree[0] == 'neg':
        inner = fold(tree[1])
        if inner == ('num', 0):
            return inner
        return inner[1] if inner[0] == 'neg' else ('neg', inner)
    if tree[0] != 'op':
        return tree
    one, other = fold(tree[2]), fold(tree[3])
    left, right = number(one), number(other)
    if left is None or right is None:
        return ('op', tree[1], one, other)
    found = {'==': int(left == right), '<': int(left < right), '+': left + right, '-': left - right,
             '*': left * right}[tree[1]]
    if len(str(abs(found))) > 30:
        return ('op', tree[1], one, other)
    return ('num', found) if found >= 0 else ('neg', ('num', -found))


def fold_rows(rows):
    """Return steps folded all in one going."""
    found = []
    for row in rows:
        if row[0] in ('set', 'say', 'give'):
            found.append((*row[:-1], fold(row[-1])))
        elif row[0] == 'def':
            found.append((*row[:3], fold_rows(row[3])))
        else:
            test = fold(row[1])
            lots = [fold_rows(lot) for lot in row[2:]]
            if row[0] == 'if' and number(test) is not None:
                found += lots[1 if number(test) == 0 else 0]
            elif number(test) != 0:
                found.append((row[0], test, *lots))
    for place, row in enumerate(found):
        if surely_gives(row):
            return tuple(found[:place + 1])
    return tuple(found)


def surely_gives(row):
    if row[0] == 'if':
        return any(map(surely_gives, row[2])) and any(map(surely_gives, row[3]))
    return row[0] == 'give'


def folds_at(row):
    """Tell whether a step folds by itself."""
    if row[0] == 'def':
        return False
    worth = row[-1] if row[0] in ('set', 'say', 'give') else row[1]
    if fold(worth) != worth:
        return True
    return row[0] == 'if' and number(worth) is not None or row[0] == 'while' and number(worth) == 0


def with_gives(rows, seed):
    """Return a program with more gives and fixed tests in its defs."""
    maker = Maker(seed)

    def deeper(lot):
        found = []
        for row in lot:
            row = with_blocks(row, [deeper(inner) for inner in blocks_of(row)])
            if maker.random.randrange(4) == 0:
                row = ('if', maker.worth(1), (row, ('give', maker.worth(1))), (('give', ('num', 1)), row))
            found.append(row)
        return tuple(found)

    return tuple(with_blocks(row, [deeper(row[3])]) if row[0] == 'def' else row for row in rows)


MADE = programs(60, 21) + [with_gives(rows, seed) for seed, rows in enumerate(programs(60, 22))]


class Worths(unittest.TestCase):

    def test_by_hand(self):
        for text, told in (
                ('1 + 2', '3'), ('2 - 5', '-3'), ('-2 * 3', '-6'), ('-2 * -3', '6'), ('1 == 1', '1'), ('2 < 1', '0'),
                ('-1 < 0', '1'), ('1 + 2 * 3 - 4', '3'), ('(1 + 2) * (3 - 4)', '-3'), ('-0', '0'), ('-(1 - 1)', '0'),
                ('--a', 'a'), ('---a', '-a'), ('----a', 'a'), ('--5', '5'), ('---5', '-5'), ('---0', '0'), ('-5', '-5'),
                ('-(2 - 5)', '3'), ('a', 'a'), ('-a', '-a'), ('a + 0', 'a + 0'), ('a * 0', 'a * 0'), ('a - a', 'a - a'),
                ('a == a', 'a == a'), ('1 + 2 + a', '3 + a'), ('a + 1 + 2', 'a + 1 + 2'), ('a + (1 + 2)', 'a + 3'),
                ('a - (2 - 5)', 'a - -3'), ('f()', 'f()'), ('f(1 + 2, --a) + 3', 'f(3, a) + 3'), ('-f(-0)', '-f(0)'),
                ('--f()', 'f()'), ('--(a + b)', 'a + b'), ('0 - 0', '0'), ('1 - 1 == 0', '1')):
            with self.subTest(text=text):
                self.assertEqual(told_worth(folded_worth(read_worth(text))), told)

    def test_deeds_that_fail_are_left(self):
        for text, told in (
                (f'{BIG} * {BIG}', f'{BIG} * {BIG}'), (f'{BIG} * {BIG - 1}', str(BIG * (BIG - 1))),
                (f'{BIG} * {BIG} + (1 + 1)', f'{BIG} * {BIG} + 2'), (f'-{BIG} * {BIG}', f'-{BIG} * {BIG}'),
                (f'-({BIG} * {BIG})', f'-({BIG} * {BIG})'), (f'--({BIG} * {BIG})', f'{BIG} * {BIG}'),
                (f'0 * ({BIG} * {BIG})', f'0 * ({BIG} * {BIG})'), (f'{10 ** 30 - 1} + 1', f'{10 ** 30 - 1} + 1'),
                (f'{10 ** 30 - 2} + 1', str(10 ** 30 - 1)), (f'-{10 ** 30 - 1} - 1', f'-{10 ** 30 - 1} - 1'),
                # A number past thirty figures that is only written doesn't fail, nor does holding it against another.
                (f'{10 ** 40} == {10 ** 40}', '1'), (f'{10 ** 40} - {10 ** 40}', '0'), (f'--{10 ** 40}', str(10 ** 40)),
                (f'{10 ** 40} + 1', f'{10 ** 40} + 1')):
            with self.subTest(text=text):
                self.assertEqual(told_worth(folded_worth(read_worth(text))), told)

    def test_made_worths(self):
        for seed in range(400):
            maker = Maker(seed, calls=seed % 2 == 0)
            tree = maker.worth(4)
            found = folded_worth(tree)
            self.assertEqual(found, fold(tree))
            self.assertEqual(folded_worth(found), found)
            if seed % 2 == 1:
                names = {'a': 3, 'b': 0, 'c': -2}
                self.assertEqual(value_of(found, names), value_of(tree, names))

    def test_long_chains(self):
        self.assertEqual(folded_worth(read_worth('1' + ' + 1' * 3000)), ('num', 3001))
        chain = read('a = b' + ' + b' * 3000 + ';')
        self.assertTrue(is_folded(chain))
        self.assertEqual(folded(read('a = --b' + ' + b' * 3000 + ';'))[1], (('worth', (0,)),))

    def test_numbers(self):
        for text, value in (('0', 0), ('7', 7), ('-7', -7), ('-0', 0)):
            self.assertIs(is_number(read_worth(text)), True)
            self.assertEqual(number_of(read_worth(text)), value)
        for text in ('a', '-a', '--1', '1 + 1', 'f()', '-(1 + 1)'):
            self.assertIs(is_number(read_worth(text)), False, text)
        for value, tree in ((0, ('num', 0)), (3, ('num', 3)), (-3, ('neg', ('num', 3)))):
            self.assertEqual(number_tree(value), tree)
            self.assertEqual(number_of(tree), value)

    def test_what_can_be_left_out(self):
        for text, answer in (('1', True), ('-1', True), ('--1', True), ('a', False), ('-a', False), ('f()', False),
                             ('1 + 1', False), ('-(1 < 2)', False), ('f(1)', False)):
            self.assertIs(is_free(read_worth(text)), answer, text)


class Steps(unittest.TestCase):

    def test_step_by_step(self):
        for text, way, reason, told in (
                ('a = 1 + 2;', (0,), 'worth', 'a = 3;'), ('say --a;', (0,), 'worth', 'say a;'),
                ('while 1 - 1 { say 1; }', (0,), 'worth', 'while 0 { say 1; }'),
                ('if 1 < 2 { say 1; }', (0,), 'worth', 'if 1 { say 1; }'),
                ('if --1 { say 1; }', (0,), 'worth', 'if 1 { say 1; }'),
                ('if 1 { say 1; say 2; } else { say 3; }', (0,), 'if', 'say 1; say 2;'),
                ('if -1 { say 1; } else { say 3; }', (0,), 'if', 'say 1;'),
                ('if 0 { say 1; } else { say 3; say 4; }', (0,), 'if', 'say 3; say 4;'),
                ('if 0 { say 1; }', (0,), 'if', ''), ('if 3 { }', (0,), 'if', ''), ('if 0 { } else if a { }', (0,), 'if',
                                                                               'if a { }'),
                ('while 0 { say 1; }', (0,), 'while', ''), ('say 1; if a { if 2 { say 2; } }', (1, 0, 0), 'if', 'say 2;'),
                ('def f() { give 1 + 1; }', (0, 0, 0), 'worth', 'give 2;')):
            with self.subTest(text=text):
                rows = read(text)
                found = step_fold(rows, way)
                self.assertEqual((found[0], told_plain(found[1])), (reason, told))
                self.assertTrue(tuples_throughout(found))
                self.assertEqual(step_fold(list(rows), list(way)), found)

    def test_steps_that_do_not_fold(self):
        rows = read('a = b; if a { } if -b { } if f() { } if a + 1 { } if a { say 1; } while a { } while 1 { } '
                    f'say {BIG} * {BIG}; if {BIG} * {BIG} {{ }} def f() {{ give 1; say 2; }} while -2 {{ }}')
        for way in all_ways(rows):
            self.assertIsNone(step_fold(rows, way), way)
        for way in ((12,), (-1,), (0, 0, 0), (1, 2, 0), (1, 0), ()):
            with self.subTest(way=way), self.assertRaises(NoSuch):
                step_fold(rows, way)

    def test_what_stands_behind_a_give(self):
        for body, way in (
                ('give 1;', None), ('say 1; give 1;', None), ('give 1; say 2;', (0, 0, 1)), ('give 1; say 2; say 3;',
                                                                                             (0, 0, 1)),
                ('if a { give 1; } say 2;', None), ('if a { give 1; } else { give 2; } say 2;', (0, 0, 1)),
                ('if a { give 1; } else { say 2; } say 2;', None), ('while a { give 1; } say 2;', None),
                ('if a { say 1; if b { give 1; } else { give 2; } } else if c { give 2; } else { give 3; } say 1;',
                 (0, 0, 1)),
                ('if a { if b { give 1; } } else { give 2; } say 1;', None),
                ('say 1; if a { give 1; say 5; } say 2;', (0, 0, 1, 0, 1)),
                ('while a { give 1; give 2; } say 1;', (0, 0, 0, 0, 1)),
                ('if a { } else { give 1; if b { give 2; say 3; } }', (0, 0, 0, 1, 1))):
            with self.subTest(body=body):
                self.assertEqual(behind_give(read('def f(a) { ' + body + ' }')), way)
        self.assertIsNone(behind_give(()))
        self.assertIsNone(behind_give(OUTER_STEPS))

    def test_steps_that_surely_give(self):
        rows = read('def f(a) { give 1; say 1; if a { give 1; } if a { give 1; } else { say 1; give 2; say 3; } '
                    'while 1 { give 1; } if a { } else { } if 1 { give 1; } }')[0][3]
        self.assertEqual([ends(row) for row in rows], [True, False, False, True, False, False, False])
        self.assertIs(ends(read('def f() { give 1; }')[0]), False)


class Programs(unittest.TestCase):

    def test_by_hand(self):
        for text, told, reasons in (
                ('', '', ()), ('a = b; say a;', 'a = b; say a;', ()),
                ('say 1 + 1; if 1 - 1 { say 2; } else { say 3 * 2; }', 'say 2; say 6;',
                 (('worth', (0,)), ('worth', (1,)), ('if', (1,)), ('worth', (1,)))),
                ('if 1 { if 0 { say 1; } while 0 { } say 2; } say --a;', 'say 2; say a;',
                 (('if', (0,)), ('if', (0,)), ('while', (0,)), ('worth', (1,)))),
                ('def f(a) { give 1; say 2; if 3 { say 4; } } say f(0 - 1);', 'def f(a) { give 1; } say f(-1);',
                 (('if', (0, 0, 2)), ('worth', (1,)), ('give', (0, 0, 1)), ('give', (0, 0, 1)))),
                ('def f(a) { if a { give 1; } else { if 2 { give 2; } say 3; } say 4; } say f(1);',
                 'def f(a) { if a { give 1; } else { give 2; } } say f(1);',
                 (('if', (0, 0, 0, 1, 0)), ('give', (0, 0, 0, 1, 1)), ('give', (0, 0, 1)))),
                ('while 1 { if 0 { } }', 'while 1 { }', (('if', (0, 0, 0)),))):
            with self.subTest(text=text):
                found = folded(read(text))
                self.assertEqual((told_plain(found[0]), found[1]), (told, reasons))
                self.assertTrue(tuples_throughout(found))
                self.assertEqual(folded(list(read(text))), found)

    def test_folded_programs_say_the_same(self):
        ended, failed, ran_out = 0, 0, 0
        for rows in MADE:
            found = folded(rows)[0]
            for most in (5, 60, 500):
                words, stuck, _, used = carried_out(rows, most)
                mine = said(found, most)
                if stuck and used == most:
                    self.assertEqual(mine[0][:len(words)], words)
                    ran_out += 1
                else:
                    # Folded, it uses no more steps: so it comes to the same end, or fails at the same place.
                    self.assertEqual(mine, (words, stuck))
                    failed, ended = failed + stuck, ended + (not stuck)
        self.assertGreater(min(ended, failed, ran_out), 20)

    def test_folded_as_the_test_does_it(self):
        kinds = {}
        for rows in MADE:
            found, reasons = folded(rows)
            self.assertEqual(found, fold_rows(rows))
            self.assertTrue(tuples_throughout((found, reasons)))
            self.assertEqual(folded(found), (found, ()))
            self.assertIs(is_folded(found), True)
            self.assertIs(is_folded(rows), reasons == ())
            for reason, _ in reasons:
                kinds[reason] = kinds.get(reason, 0) + 1
        self.assertEqual(sorted(kinds), ['give', 'if', 'while', 'worth'])
        self.assertGreater(min(kinds.values()), 10)

    def test_the_first_way_that_folds_is_taken(self):
        for rows in MADE:
            here = rows
            for reason, way in folded(rows)[1]:
                ways = [one for one in all_ways(here) if folds_at(at_way(here, one))]
                found = next_fold(here)
                self.assertEqual(found[:2], (reason, way))
                if ways != []:
                    self.assertEqual((way, reason == 'give'), (ways[0], False))
                else:
                    self.assertEqual((reason, way), ('give', behind_give(here)))
                here = put_at(here, way, found[2])
            self.assertIsNone(next_fold(here))

    def test_reasons_checked_one_by_one_and_all_together(self):
        for rows in MADE:
            found, reasons = folded(rows)
            self.assertEqual(check_folds(rows, reasons), found)
            self.assertEqual(check_folds(list(rows), [[reason, list(way)] for reason, way in reasons]), found)
            here = rows
            for one in reasons:
                here = check_folds(here, (one,))
            self.assertEqual(here, found)
            self.assertEqual(check_folds(rows, ()), rows)

    def test_folds_in_another_order_are_checked_too(self):
        rows = read('say 1 + 1; if 0 { } def f() { give 1; say 2; }')
        found = check_folds(rows, (('give', (2, 0, 1)), ('if', (1,)), ('worth', (0,))))
        self.assertEqual(found, folded(rows)[0])

    def test_papers_that_are_refused(self):
        rows = read('say 1 + 1; if 0 { say 1; } while 0 { } def f(a) { if a { give 1; } else { give 2; } say 3; say 4; } '
                    'say a;')
        for reasons in (
                # A way that isn't there.
                (('worth', (9,)),), (('worth', (0, 0, 0)),), (('if', (1, 2, 0)),), (('give', (3, 0, 4)),),
                (('worth', ()),), (('worth', (-5,)),), (('while', (3, 0)),),
                # Another reason.
                (('if', (0,)),), (('while', (1,)),), (('worth', (1,)),), (('if', (2,)),), (('worth', (2,)),),
                (('give', (2,)),), (('none', (0,)),), (('', (0,)),), (('worth', (3, 0, 1)),), (('worth', (4,)),),
                (('if', (3,)),), (('worth', (3,)),),
                # Not next behind a give.
                (('give', (0,)),), (('give', (1,)),), (('give', (3, 0, 0)),), (('give', (3, 0, 2)),),
                (('give', (3, 0, 0, 0, 0)),), (('give', (4,)),),
                # Done once, there is nothing more to be done there.
                (('worth', (0,)), ('worth', (0,))), (('if', (1,)), ('if', (1,))),
                (('give', (3, 0, 1)), ('give', (3, 0, 1)), ('give', (3, 0, 1)))):
            with self.subTest(reasons=reasons), self.assertRaises(BadPaper):
                check_folds(rows, reasons)

    def test_what_is_no_program_is_refused(self):
        for rows in NO_PROGRAMS:
            with self.subTest(rows=rows):
                for deed in (folded, is_folded, lambda one: check_folds(one, ()),
                             lambda one: check_folds(one, (('worth', (7,)),))):
                    with self.assertRaises(BadTree):
                        deed(rows)

    def test_what_is_handed_in_stays(self):
        rows = list(PROGRAM) + list(read('say 1 + 1; if 0 { }'))
        before = list(rows)
        folded(rows)
        with self.assertRaises(BadPaper):
            check_folds(rows, [['worth', [0]]])
        self.assertEqual(rows, before)


if __name__ == '__main__':
    unittest.main()
