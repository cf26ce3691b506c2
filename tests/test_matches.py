"""Point 16: worths found by patterns with holes, exchanged by rules from within, and rules tried out."""

import itertools
import unittest

from helper import WORTHS, tuples_throughout
from making import Maker, programs
from neatwright.errors import BadChange
from neatwright.matches import (all_matches, by_rule, changed, check_rule, filled, fit, holds, lessens, matched, often,
                                places_in, program_by_rule, tables_of, to_end, worth_or_none)
from neatwright.reads import read, read_worth, told_plain, told_worth
from neatwright.runs import value_of
from neatwright.trees import all_steps, all_worths, check_program, inner_worths, size, worths_of

HOLES = ('x', 'y')
PATTERNS = [read_worth(text) for text in (
    'x + y', 'x + x', 'x - x', '0 + x', 'x * 1', '-x', '--x', '-(x + y)', 'x == y', 'f(x)', 'f(x, y)', 'f(x, x)', 'g()',
    'a + x', '1', 'a', '(x + y) * x', 'x * y + x', 'x + y + x', '2 + 3', 'f(f(x))', '0 < x', 'x', 'x + c')]
TREES = [tree for tree in (Maker(seed).worth(3) for seed in range(120)) if size(tree) < 16] + [read_worth(text) for text in (
    'a + a', '(a + 1) + (a + 1)', 'f(b) - f(b)', 'f(1, 1)', 'f(1, 2)', '--(a + b)', '(a + b) * a', 'a * 1', '0 + -b',
    'f(f(c))', 'g()', 'x + y', 'x + x', '2 + 3')]


def fill(pattern, table):
    """Return a pattern with its holes filled, as the test does it."""
    if pattern[0] == 'name':
        return table.get(pattern[1], pattern)
    if pattern[0] == 'call':
        return ('call', pattern[1], tuple(fill(one, table) for one in pattern[2]))
    if pattern[0] == 'num':
        return pattern
    return (*[part if isinstance(part, str) else fill(part, table) for part in pattern],)


def trying(pattern, tree, holes):
    """Return the table by which a pattern is a worth, by trying all worths within it for the holes; None for none."""
    mine = [name for name in holes if name in reads_of(pattern)]
    for worths in itertools.product(sorted(set(all_worths(tree)), key=str), repeat=len(mine)):
        table = dict(zip(mine, worths))
        if fill(pattern, table) == tree:
            return table
    return None


def reads_of(tree):
    return [one[1] for one in all_worths(tree) if one[0] == 'name']


def exchanged_from_within(tree, pattern, result, holes):
    """Return a worth with all that a pattern matches exchanged, by calls one in another."""
    if tree[0] == 'call':
        here = ('call', tree[1], tuple(exchanged_from_within(one, pattern, result, holes) for one in tree[2]))
    elif tree[0] in ('op', 'neg'):
        here = tuple(part if isinstance(part, str) else exchanged_from_within(part, pattern, result, holes)
                     for part in tree)
    else:
        here = tree
    table = trying(pattern, here, holes)
    return here if table is None else fill(result, table)


RULES = [(read_worth(one), read_worth(other)) for one, other in (
    ('x + 0', 'x'), ('0 + x', 'x'), ('x + y', 'y + x'), ('x - x', '0'), ('x * (y + 1)', 'x * y + x'), ('--x', 'x'),
    ('f(x)', 'f(x + 1)'), ('f(x, y)', 'f(y, x)'), ('x + x', '2 * x'), ('1', '2'), ('a', 'b'), ('g()', '1'),
    ('a + x', 'x + a'), ('x == y', 'y == x'))]


class Matched(unittest.TestCase):

    def test_by_trying_worths_for_the_holes(self):
        fitting = 0
        for pattern in PATTERNS:
            for tree in TREES + list(WORTHS):
                found = matched(pattern, tree, HOLES)
                self.assertEqual(found, trying(pattern, tree, HOLES))
                table = {}
                self.assertIs(fit(pattern, tree, list(HOLES), table), found is not None)
                if found is not None:
                    self.assertEqual(table, found)
                    self.assertEqual(filled(pattern, found), tree)
                    self.assertEqual(filled(pattern, found), fill(pattern, found))
                    self.assertTrue(tuples_throughout(tuple(found.values())))
                    fitting += 1
        self.assertGreater(fitting, 150)

    def test_by_hand(self):
        for pattern, tree, table in (
                ('x + y', 'a * 2 + f(1)', {'x': 'a * 2', 'y': 'f(1)'}), ('x + x', 'a + a', {'x': 'a'}),
                ('x + x', 'a + b', None), ('x', 'a + b', {'x': 'a + b'}), ('z', 'z', {}), ('z', 'a', None),
                ('f(x, x)', 'f(-1, -1)', {'x': '-1'}), ('f(x)', 'f(1, 2)', None), ('f(x)', 'g(1)', None),
                ('f()', 'f()', {}), ('-x', '-(-a)', {'x': '-a'}), ('x + 1', 'a + 2', None), ('x + y', 'a - b', None),
                ('x + y', 'x + y', {'x': 'x', 'y': 'y'}), ('x + y', 'y + x', {'x': 'y', 'y': 'x'}),
                ('1', '1', {}), ('1', '-1', None), ('x - (y - x)', 'a - (1 - a)', {'x': 'a', 'y': '1'}),
                ('x - (y - x)', 'a - (1 - b)', None)):
            with self.subTest(pattern=pattern, tree=tree):
                found = matched(read_worth(pattern), read_worth(tree), HOLES)
                self.assertEqual(found if found is None else {name: told_worth(found[name]) for name in found}, table)
        # A name is a hole only if it is told as one.
        self.assertEqual(matched(read_worth('x + y'), read_worth('a + y'), ('x',)), {'x': ('name', 'a')})
        self.assertIsNone(matched(read_worth('x + y'), read_worth('a + b'), ('x',)))
        self.assertEqual(matched(read_worth('x'), read_worth('x'), ()), {})

    def test_a_table_that_holds_worths_already(self):
        table = {'x': ('name', 'a')}
        self.assertIs(fit(read_worth('x + y'), read_worth('a + 1'), HOLES, table), True)
        self.assertEqual(table, {'x': ('name', 'a'), 'y': ('num', 1)})
        self.assertIs(fit(read_worth('x + y'), read_worth('b + 1'), HOLES, table), False)

    def test_filled(self):
        for pattern, table, told in (('x + y', {'x': 'a', 'y': '1 + 2'}, 'a + (1 + 2)'), ('x * x', {'x': 'a + 1'},
                                                                                         '(a + 1) * (a + 1)'),
                                     ('x + y', {'x': 'y', 'y': 'x'}, 'y + x'), ('f(x, -x, z)', {'x': 'z'}, 'f(z, -z, z)'),
                                     ('x', {}, 'x'), ('x()', {'x': '1'}, 'x()')):
            found = filled(read_worth(pattern), {name: read_worth(table[name]) for name in table})
            self.assertEqual(told_worth(found), told)
            self.assertTrue(tuples_throughout(found))

    def test_places(self):
        for pattern in PATTERNS[:12]:
            for tree in TREES[:60]:
                found = places_in(tree, pattern, HOLES)
                self.assertEqual(found, tuple(one for one in all_worths(tree) if trying(pattern, one, HOLES) is not None))
                self.assertTrue(tuples_throughout(found))
        found = places_in(read_worth('a + b + (c + 1) * 2'), read_worth('x + y'), HOLES)
        self.assertEqual([told_worth(one) for one in found], ['a + b + (c + 1) * 2', 'a + b', 'c + 1'])

    def test_all_matches_step_by_step(self):
        rows = read('say 1 + 2; a = b + c + 1; if a + 1 { say 5 + 5; } while 1 { say 6 + 6; } def f() { give 7 + 7; }')
        self.assertEqual([told_worth(one) for one in all_matches(rows, read_worth('x + y'), HOLES)],
                         ['1 + 2', 'b + c + 1', 'b + c', 'a + 1'])
        self.assertEqual(all_matches((), read_worth('x'), HOLES), ())
        for rows in programs(20, 71):
            for pattern in PATTERNS[:6]:
                mine = [one for row in rows for tree in worths_of(row) for one in all_worths(tree)
                        if trying(pattern, one, HOLES) is not None]
                self.assertEqual(all_matches(list(rows), pattern, HOLES), tuple(mine))

    def test_long_chains(self):
        chain = read_worth('a' + ' + a' * 2500)
        twice = ('op', '-', chain, read_worth('a' + ' + a' * 2500))
        self.assertEqual(list(matched(read_worth('x - x'), twice, HOLES)), ['x'])
        self.assertIsNone(matched(read_worth('x - x'), ('op', '-', chain, ('op', '+', chain, ('num', 1))), HOLES))
        self.assertEqual(size(by_rule(chain, read_worth('x + a'), read_worth('a + x'), HOLES)), 5001)


class Rules(unittest.TestCase):

    def test_holes_of_a_rule(self):
        one, other = read_worth('x + y'), read_worth('y')
        self.assertEqual(check_rule(one, other, ('y', 'x', 'y')), ('x', 'y'))
        self.assertEqual(check_rule(one, other, ['z', 'x', 'y']), ('x', 'y', 'z'))
        self.assertEqual(check_rule(one, read_worth('z'), ('x',)), ('x',))
        self.assertEqual(check_rule(read_worth('x'), read_worth('y'), ()), ())

    def test_rules_that_are_refused(self):
        tree, rows = read_worth('a + b'), read('say a + b;')
        for pattern, result, holes in (('x', '1', ('x',)), ('x', 'x', ('y', 'x')), ('x + 1', 'y', ('x', 'y')),
                                       ('1', 'x', ('x',)), ('x + y', 'z * f(x)', ('x', 'y', 'z')), ('x()', 'x', ('x',))):
            rule = (read_worth(pattern), read_worth(result), holes)
            with self.subTest(rule=rule):
                for deed in (lambda: check_rule(*rule), lambda: by_rule(tree, *rule), lambda: lessens(*rule),
                             lambda: program_by_rule(rows, *rule), lambda: holds(*rule, (0, 1)),
                             lambda: to_end(tree, (rule,), 3)):
                    with self.assertRaises(BadChange):
                        deed()

    def test_exchanged_from_within(self):
        some = 0
        for pattern, result in RULES:
            for tree in TREES:
                found = by_rule(tree, pattern, result, HOLES)
                self.assertEqual(found, exchanged_from_within(tree, pattern, result, HOLES))
                self.assertEqual(changed(tree, pattern, result, HOLES), found)
                self.assertTrue(tuples_throughout(found))
                some += found != tree
        self.assertGreater(some, 100)

    def test_by_hand(self):
        for pattern, result, tree, told in (
                ('x + 0', 'x', 'a + 0 + 0', 'a'), ('x + y', 'y + x', 'a + b + c', 'c + (b + a)'),
                ('x + x', '2 * x', 'a + a + (a + a)', '2 * (2 * a)'), ('--x', 'x', '----a', 'a'), ('--x', 'x', '---a', '-a'),
                # Once each: what is put in its place isn't matched again.
                ('f(x)', 'f(f(x))', 'f(1)', 'f(f(1))'), ('1', '1 + 1', '1 + 1', '1 + 1 + (1 + 1)'),
                ('a', 'b', 'a + b', 'b + b'), ('x - x', '0', 'f(2 - 2) - f(0)', '0')):
            with self.subTest(pattern=pattern, tree=tree):
                self.assertEqual(told_worth(by_rule(read_worth(tree), read_worth(pattern), read_worth(result), HOLES)),
                                 told)

    def test_programs(self):
        rows = read('a = b + 0; if c + 0 + 0 { say f(a + 0); } while 1 { say a; } def f(x) { give x + 0; }')
        found = program_by_rule(rows, read_worth('x + 0'), read_worth('x'), ('x',))
        self.assertEqual(told_plain(found), 'a = b; if c { say f(a); } while 1 { say a; } def f(x) { give x; }')
        for rows in programs(30, 72):
            for pattern, result in RULES:
                found = program_by_rule(list(rows), pattern, result, HOLES)
                self.assertEqual(check_program(found), found)
                self.assertTrue(tuples_throughout(found))
                mine = [by_rule(tree, pattern, result, HOLES) for row in all_steps(rows) for tree in worths_of(row)]
                self.assertEqual([tree for row in all_steps(found) for tree in worths_of(row)], mine)


class Tried(unittest.TestCase):

    def test_tables_in_order(self):
        self.assertEqual(tables_of((), (1, 2)), [{}])
        self.assertEqual(tables_of(('a',), ()), [])
        self.assertEqual(tables_of(('a', 'b'), (2, 0)), [{'a': 2, 'b': 2}, {'a': 2, 'b': 0}, {'a': 0, 'b': 2},
                                                        {'a': 0, 'b': 0}])
        for count in range(4):
            names = ['a', 'b', 'c'][:count]
            mine = [dict(zip(names, lot)) for lot in itertools.product((0, 1, -1), repeat=count)]
            self.assertEqual(tables_of(names, (0, 1, -1)), mine)

    def test_numbers_of_worths(self):
        for text, table, value in (('1 + x', {'x': 2}, 3), ('y', {'x': 2}, None), ('x * x', {'x': -3}, 9),
                                   ('f()', {}, None), ('x * x', {'x': 10 ** 15}, None), ('x < 0', {'x': -1}, 1)):
            self.assertEqual(worth_or_none(read_worth(text), table), value)

    def test_the_first_table_by_which_sides_differ(self):
        for pattern, result, numbers, table in (
                ('x + y', 'y + x', (0, 1, -1), None), ('x - y', 'y - x', (0, 1), {'x': 0, 'y': 1}),
                ('x * x', 'x', (0, 1, 2, 3), {'x': 2}), ('x * x', 'x', (0, 1), None), ('x + 0', 'x', (5,), None),
                ('x - x', '0', (1, 10 ** 29, 9), None), ('x + x - x', 'x', (7, 6 * 10 ** 29, 8), {'x': 6 * 10 ** 29}),
                ('x * y', 'x', (), None), ('x == y', '1', (3, 2), {'x': 3, 'y': 2}), ('1 + 1', '2', (0,), None),
                ('1 + 1', '3', (0,), {}), ('1 + 1', '3', (), {})):
            with self.subTest(pattern=pattern, result=result):
                holes = set(reads_of(read_worth(pattern)))
                self.assertEqual(holds(read_worth(pattern), read_worth(result), tuple(holes), numbers), table)
        # Holes that don't stand in the rule have numbers, too.
        self.assertEqual(holds(read_worth('x * x'), read_worth('x'), ('y', 'x', 'y'), (1, 2)), {'x': 2, 'y': 1})
        self.assertEqual(holds(read_worth('1 + 1'), read_worth('3'), (), (4,)), {})
        for seed in range(150):
            maker = Maker(seed, calls=False)
            pattern, result = ('op', '+', maker.worth(2), maker.worth(1)), maker.worth(2)
            holes = sorted(set(reads_of(pattern) + reads_of(result)))
            numbers = (0, 1, -2)
            if any(name not in reads_of(pattern) for name in holes):
                continue
            mine = next((table for table in tables_of(holes, numbers)
                         if value_of(pattern, table) != value_of(result, table)), None)
            self.assertEqual(holds(pattern, result, holes, numbers), mine)

    def test_calls_and_strange_names_are_refused(self):
        for pattern, result, holes in (('f(x)', '1', ('x',)), ('x + 1', 'f(x)', ('x',)), ('x + a', 'x', ('x',)),
                                       ('x + 1', 'x + a', ('x',)), ('x + y', 'x', ()), ('-g()', '1', ())):
            for numbers in ((), (0, 1)):
                with self.subTest(pattern=pattern, result=result), self.assertRaises(BadChange):
                    holds(read_worth(pattern), read_worth(result), holes, numbers)


class ToEnd(unittest.TestCase):

    def rules(self, *texts):
        return [(read_worth(one), read_worth(other), HOLES) for one, other in texts]

    def test_rules_in_turn_to_their_end(self):
        plus = self.rules(('x + 0', 'x'), ('0 + x', 'x'))
        for rules, tree, most, told, rounds in (
                (plus, 'a', 0, 'a', 0), (plus, 'a + 0', 1, 'a', 1), (plus, '0 + (a + 0) + 0', 5, 'a', 1),
                (self.rules(('0 + x', 'x'), ('x * 1', 'x')), '(0 + a) * 1', 1, 'a', 1),
                (self.rules(('f(x)', 'x * 1'), ('g(x)', 'f(x)')), 'g(a)', 2, 'a * 1', 2),
                (self.rules(('f(x)', 'x'), ('g(x)', 'f(x)'), ('h()', 'g(1)')), 'h()', 3, '1', 3),
                ((), 'a + 0', 0, 'a + 0', 0), ((), 'a', 7, 'a', 0),
                # A rule that gives back what it finds changes nothing.
                (self.rules(('x + y', 'x + y')), 'a + b', 0, 'a + b', 0),
                (self.rules(('x + y', 'y + x')), 'a + a', 0, 'a + a', 0),
                (self.rules(('x + y', 'y + x'), ('x + y', 'y + x')), 'a + b', 0, 'a + b', 0)):
            with self.subTest(tree=tree, most=most):
                found = to_end(read_worth(tree), rules, most)
                self.assertEqual((told_worth(found[0]), found[1]), (told, rounds))
                self.assertTrue(tuples_throughout(found))

    def test_no_end_in_so_many_rounds(self):
        for rules, tree, most in (
                (self.rules(('x + y', 'y + x')), 'a + b', 0), (self.rules(('x + y', 'y + x')), 'a + b', 9),
                (self.rules(('f(x)', 'f(f(x))')), 'f(1)', 3), (self.rules(('x + 0', 'x')), 'a + 0', 0),
                (self.rules(('f(x)', 'x'), ('g(x)', 'f(x)'), ('h()', 'g(1)')), 'h()', 2)):
            with self.subTest(tree=tree, most=most), self.assertRaises(BadChange):
                to_end(read_worth(tree), rules, most)

    def test_rules_that_lessen_come_to_an_end(self):
        lessening = [(one, other, HOLES) for one, other in RULES if lessens(one, other, HOLES)]
        self.assertGreater(len(lessening), 3)
        for tree in TREES:
            found, rounds = to_end(tree, lessening, size(tree))
            self.assertLessEqual(size(found), size(tree) - rounds)
            for rule in lessening:
                self.assertEqual(by_rule(found, *rule), found)


class Lessens(unittest.TestCase):

    def test_by_hand(self):
        for pattern, result, answer in (
                ('x + 0', 'x', True), ('x + x', 'x', True), ('x + x', '2 * x', False), ('x - x', '0', True),
                ('x + y', 'y + x', False), ('f(x) + 1 + 2', 'x + x', False), ('f(x, x) + 1', 'x + x', True),
                ('--x', 'x', True), ('-x', 'x', True), ('x * (y + 1)', 'x * y', True), ('1 + 2', '3', True),
                ('1', '2', False), ('x + y + y', 'x + x', False), ('x + y', 'x', True), ('x + a', 'a', True),
                ('x + 1 + 2', 'x + a', True), ('f(1)', 'a', True)):
            with self.subTest(pattern=pattern, result=result):
                self.assertIs(lessens(read_worth(pattern), read_worth(result), HOLES), answer)

    def test_what_lessens_makes_worths_smaller(self):
        for pattern, result in RULES:
            if lessens(pattern, result, HOLES):
                for tree in TREES:
                    for one in places_in(tree, pattern, HOLES):
                        self.assertLess(size(filled(result, matched(pattern, one, HOLES))), size(one))

    def test_how_often_a_name_is_read(self):
        for text, count in (('a', 1), ('a + a * -a', 3), ('b', 0), ('a()', 0), ('f(a, a(a))', 2), ('1', 0)):
            self.assertEqual(often(read_worth(text), 'a'), count)
        for tree in TREES:
            self.assertEqual(often(tree, 'a'), reads_of(tree).count('a'))
            self.assertEqual(sum(often(one, 'a') for one in inner_worths(tree)), often(tree, 'a') - (tree == ('name', 'a')))


if __name__ == '__main__':
    unittest.main()
