"""Point 10: worths taken out and put in, ifs turned and steps exchanged, and what would change the meaning refused."""

import unittest

from helper import OUTER_STEPS, WORTHS, tuples_throughout
from making import Maker, programs
from neatwright.errors import BadChange, BadSign, BadTree, NoSuch
from neatwright.moves import (all_small, blocks_below, exchanged, is_sure, is_test, put_in, put_worth, read_otherwise,
                              read_steps, scope_of, surely_set, taken_out, turned_if, turned_test, worth_at)
from neatwright.reads import read, read_worth, told_plain, told_worth
from neatwright.runs import said, says_same, value_of
from neatwright.scopes import names_of, params_of, scope_rows, scopes_of
from neatwright.trees import all_steps, all_ways, all_worths, at_way, blocks_of, inner_worths, put_at, worths_of
from oracle import carried_out

NO_NAMES = ('', 'if', 'A', '1a', '_a', 'a b', 'give')
NO_PROGRAMS = ((('give', ('name', 'a')), ('say', ('num', 1))), (('set', 'a', ('num', 1)), ('say', 1)),
               read('a = 1; say a; def f() { }') + read('def f() { }'),
               (('set', 'a', ('num', 1)), ('while', ('num', 1), read('def f() { }'))),
               (('set', 'a', ('num', 1)), ('set', 'b')))
BIG = 10 ** 14
SURE = ('1', '0', 'a', '-a', '-7', str(10 ** 40), f'-{10 ** 31}', '1 + 2', '1 == 2', '2 < 1', '3 * 4', '3 - 4',
        f'{BIG - 1} * {BIG - 1}', f'{BIG - 1} + {BIG - 1}', f'0 - {BIG - 1}', '--a', '-(1 + 2)', '-1 + 2', '2 * -3')
UNSURE = (f'{BIG} + 1', f'1 * {BIG}', f'{BIG} == 1', f'0 < {BIG}', f'{10 ** 30} - 1', f'-{BIG} + 1', f'-({BIG} * 2)',
          'a + 1', '1 + a', 'a == 1', 'a < b', '-a + 1', '-(a * 2)', '1 + 2 + 3', '1 * (2 + 3)', '1 + 2 == 3', 'f()',
          'f(1)', '-f()', '1 + f()', 'f(1) == 1')


def paths_of(tree):
    """Return the paths of a worth and of all within it."""
    found = [()]
    for place, inner in enumerate(inner_worths(tree)):
        found += [(place, *path) for path in paths_of(inner)]
    return found


def same_runs(one, other):
    return all(says_same(one, other, most) for most in (0, 1, 4, 15, 60, 300))


def same_but_for_steps(fewer, more):
    """Tell whether two programs say the same, where one uses more steps, but not more than twice as many."""
    for most in (0, 4, 15, 150):
        one, other = said(fewer, most)[0], said(more, 2 * most)[0]
        if other[:len(one)] != one or said(fewer, most)[0][:len(said(more, most)[0])] != said(more, most)[0]:
            return False
    if carried_out(fewer, 400)[3] < 400:
        return said(fewer, 400) == said(more, 800)
    return True


def sets_of(steps):
    return [row for row in all_steps(steps) if row[0] == 'set']


def reads_of(steps):
    return [one[1] for row in all_steps(steps) for tree in worths_of(row) for one in all_worths(tree)
            if one[0] == 'name']


def sure(tree):
    """Tell whether a worth of set names can't fail, as point 10 has it."""
    if tree[0] == 'neg':
        return sure(tree[1])
    if tree[0] == 'op':
        numbers = [one[1] if one[0] == 'neg' else one for one in tree[2:]]
        numbers = [one[1] if one[0] == 'neg' else one for one in numbers]
        return all(one[0] == 'num' and one[1] < BIG for one in numbers)
    return tree[0] in ('num', 'name')


def may_be_put_in(rows, scope, name):
    """Tell whether a name's one worth may be put in, as the interface has it."""
    steps = scope_rows(rows, scope)
    places = [place for place, row in enumerate(steps) if row[0] == 'set' and row[1] == name]
    if len(places) != 1 or [row[1] for row in sets_of(steps)].count(name) != 1:
        return False
    place = places[0]
    worth = steps[place][2]
    mine = [one[1] for one in all_worths(worth) if one[0] == 'name']
    ahead = [row[1] for row in steps[:place] if row[0] == 'set'] + list(params_of(rows, scope))
    return (name not in reads_of(steps[:place + 1]) and not any(row[1] in mine for row in sets_of(steps[place:]))
            and sure(worth) and all(one in ahead for one in mine))


class Places(unittest.TestCase):

    def test_scopes_of_steps(self):
        rows = read('a = 1; def f(x) { if x { say 1; } else { give 2; } } while a { say a; } def g() { } say 3;')
        found = {way: scope_of(rows, way) for way in all_ways(rows)}
        self.assertEqual(found, {(0,): '', (1,): 'f', (1, 0, 0): 'f', (1, 0, 0, 0, 0): 'f', (1, 0, 0, 1, 0): 'f',
                                 (2,): '', (2, 0, 0): '', (3,): 'g', (4,): ''})
        for way in ((5,), (-1,), (0, 0, 0), (1, 1, 0), (1, 0, 1), (2, 0), (), (3, 0, 0), (1, 0, 0, 2, 0)):
            for deed in (scope_of, blocks_below):
                with self.subTest(way=way), self.assertRaises(NoSuch):
                    deed(rows, way)
        self.assertEqual([blocks_below(rows, way) for way in all_ways(rows)], [0, 3, 2, 0, 0, 1, 0, 0, 0])
        self.assertEqual(blocks_below(list(rows), [1]), 3)

    def test_worths_by_places(self):
        for tree in WORTHS + tuple(Maker(seed).worth(3) for seed in range(60)):
            paths = paths_of(tree)
            self.assertEqual([worth_at(tree, path) for path in paths], all_worths(tree))
            new = ('name', 'new')
            for path in paths:
                found = put_worth(tree, path, new)
                self.assertTrue(tuples_throughout(found))
                self.assertEqual(worth_at(found, path), new)
                self.assertEqual(put_worth(found, list(path), worth_at(tree, path)), tree)
                for other in paths:
                    if other[:len(path)] != path and path[:len(other)] != other:
                        self.assertEqual(worth_at(found, other), worth_at(tree, other))
                for place in (-1, len(inner_worths(worth_at(tree, path))), 99):
                    with self.assertRaises(NoSuch):
                        worth_at(tree, (*path, place))
                    with self.assertRaises(NoSuch):
                        put_worth(tree, (*path, place), new)
                    with self.assertRaises(NoSuch):
                        put_worth(tree, (*path, place, 0), new)
        self.assertEqual(told_worth(put_worth(read_worth('f(1, a * 2) - b'), (0, 1, 0), read_worth('c + d'))),
                         'f(1, (c + d) * 2) - b')
        chain = read_worth('a' + ' + b' * 3000)
        self.assertEqual(worth_at(chain, (0,) * 3000), ('name', 'a'))
        self.assertEqual(told_worth(put_worth(chain, (0,) * 3000, ('name', 'c')))[:9], 'c + b + b')


class TakenOut(unittest.TestCase):

    def test_by_hand(self):
        for text, way, path, name, told in (
                ('say a + b * 2;', (0,), (1,), 't', 't = b * 2; say a + t;'),
                ('say a + b * 2;', (0,), (), 't', 't = a + b * 2; say t;'),
                ('say a + b * 2;', (0,), (1, 1), 't', 't = 2; say a + b * t;'),
                ('x = 1; a = -(a + b); say a;', (1,), (0,), 't', 'x = 1; t = a + b; a = -t; say a;'),
                ('if a < 1 { say 1; } else { say 2; }', (0,), (0,), 't', 't = a; if t < 1 { say 1; } else { say 2; }'),
                ('if a { } else if b { }', (0, 1, 0), (), 't', 'if a { } else { t = b; if t { } }'),
                ('while a { say a + 1; }', (0, 0, 0), (), 't', 'while a { t = a + 1; say t; }'),
                ('def f(x) { give x * x; }', (0, 0, 0), (0,), 'y', 'def f(x) { y = x; give y * x; }'),
                # A name of another scope, or of a def, may be taken.
                ('def f(x) { give x; } say a;', (1,), (), 'x', 'def f(x) { give x; } x = a; say x;'),
                ('def f(x) { give x; } say a;', (1,), (), 'f', 'def f(x) { give x; } f = a; say f;'),
                ('a = 1; def f(x) { give x; }', (1, 0, 0), (), 'a', 'a = 1; def f(x) { a = x; give a; }')):
            with self.subTest(text=text, way=way, path=path):
                found = taken_out(read(text), way, path, name)
                self.assertEqual(told_plain(found), told)
                self.assertTrue(tuples_throughout(found))
                self.assertEqual(taken_out(list(read(text)), list(way), list(path), name), found)

    def test_made_programs(self):
        put_back = 0
        for rows in programs(15, 5) + programs(25, 6, calls=False):
            for way in all_ways(rows):
                step = at_way(rows, way)
                for tree in worths_of(step):
                    calls = any(one[0] == 'call' for one in all_worths(tree))
                    for path in paths_of(tree)[:4]:
                        if calls or step[0] == 'while':
                            with self.assertRaises(BadChange):
                                taken_out(rows, way, path, 'new')
                            continue
                        found = taken_out(rows, way, path, 'new')
                        self.assertTrue(same_but_for_steps(rows, found), told_plain(found))
                        scope = scope_of(rows, way)
                        if may_be_put_in(found, scope, 'new'):
                            self.assertEqual(put_in(found, scope, 'new'), rows)
                            put_back += 1
        self.assertGreater(put_back, 100)

    def test_what_is_refused(self):
        rows = read('def f(x) { y = x; } a = b; while a { say a; } say f(1) + a; say a + 1; if g() { c = 1; }')
        for way in ((0,), (2,), (3,), (5,)):
            for path in ((), (1,), (9,)):
                with self.subTest(way=way), self.assertRaises(BadChange):
                    taken_out(rows, way, path, 't')
        for way, name in (((1,), 'a'), ((1,), 'b'), ((4,), 'c'), ((2, 0, 0), 'a'), ((0, 0, 0), 'x'), ((0, 0, 0), 'y')):
            with self.subTest(way=way, name=name), self.assertRaises(BadChange):
                taken_out(rows, way, (), name)
        for way in ((6,), (-1,), (1, 0, 0), (2, 1, 0), (0, 0, 1), (0, 0), ()):
            with self.subTest(way=way), self.assertRaises(NoSuch):
                taken_out(rows, way, (), 't')
        for way, path in (((4,), (2,)), ((4,), (-1,)), ((4,), (0, 0)), ((1,), (0,)), ((4,), (1, 0))):
            with self.subTest(way=way, path=path), self.assertRaises(NoSuch):
                taken_out(rows, way, path, 't')
        for name in NO_NAMES:
            for way in ((1,), (2,), (9,)):
                with self.subTest(name=name), self.assertRaises(BadSign):
                    taken_out(rows, way, (7,), name)
        # Two at once: no step ahead of a step of another kind, that ahead of a name there, that ahead of no worth.
        with self.assertRaises(NoSuch):
            taken_out(rows, (6,), (), 'a')
        with self.assertRaises(BadChange):
            taken_out(rows, (4,), (5,), 'a')
        for bad in NO_PROGRAMS:
            with self.subTest(rows=bad), self.assertRaises(BadTree):
                taken_out(bad, (0,), (), 't')


class PutIn(unittest.TestCase):

    def test_by_hand(self):
        for text, scope, name, told in (
                ('a = 1; say a + a;', '', 'a', 'say 1 + 1;'), ('a = 1;', '', 'a', ''),
                ('b = 2; a = -b; say a * 2; if a { say f(a); }', '', 'a', 'b = 2; say -b * 2; if -b { say f(-b); }'),
                ('a = 1 + 2; say a * a;', '', 'a', 'say (1 + 2) * (1 + 2);'),
                ('a = 5; b = 6; while b { b = b - a; }', '', 'a', 'b = 6; while b { b = b - 5; }'),
                ('def f(x) { y = x; if y { give y; } } say f(1);', 'f', 'y', 'def f(x) { if x { give x; } } say f(1);'),
                ('a = 1; def f(x) { a = 2; give a; } say a;', '', 'a', 'def f(x) { a = 2; give a; } say 1;'),
                ('a = 1; def f(x) { a = 2; give a; } say a;', 'f', 'a', 'a = 1; def f(x) { give 2; } say a;'),
                # What its worth reads may be set ahead anew; defs between the steps are no steps of the scope.
                ('b = 1; b = 2; a = b; def f() { b = 7; } say a;', '', 'a', 'b = 1; b = 2; def f() { b = 7; } say b;'),
                (f'a = {10 ** 40}; say a;', '', 'a', f'say {10 ** 40};'),
                ('if 0 { } else { say 1; } a = 1; if 0 { } else if a { }', '', 'a',
                 'if 0 { } else { say 1; } if 0 { } else if 1 { }')):
            with self.subTest(text=text, scope=scope):
                found = put_in(read(text), scope, name)
                self.assertEqual(told_plain(found), told)
                self.assertTrue(tuples_throughout(found))
                self.assertEqual(put_in(list(read(text)), scope, name), found)
                self.assertTrue(same_but_for_steps(found, read(text)))

    def test_what_is_refused(self):
        for text, scope, name in (
                # Not set once, or not in the scope's own row.
                ('a = 1; a = 1; say a;', '', 'a'), ('a = 1; if 1 { a = 1; } say a;', '', 'a'), ('say a;', '', 'a'),
                ('if 1 { a = 1; } say a;', '', 'a'), ('while 1 { a = 1; say a; }', '', 'a'),
                ('def f() { if 1 { a = 1; say a; } }', 'f', 'a'),
                # Read ahead, or in its own worth.
                ('say a; a = 1;', '', 'a'), ('while 0 { say a; } a = 1; say a;', '', 'a'), ('a = a; say 1;', '', 'a'),
                ('if b { } else { c = -a; } a = 1;', '', 'a'),
                # What its worth reads is set behind it.
                ('b = 1; a = b; b = 2; say a;', '', 'a'), ('b = 1; a = b; if 0 { b = 2; } say a;', '', 'a'),
                ('b = 1; a = -b; while a { b = 2; say a; }', '', 'a'), ('def f(x) { a = x; x = 1; give a; }', 'f', 'a'),
                # It may fail.
                ('a = b; say a;', '', 'a'), ('if 1 { b = 1; } a = b; say a;', '', 'a'), ('a = f(); say a;', '', 'a'),
                ('b = 1; a = b + 1; say a;', '', 'a'), ('a = 1 + 2 + 3; say a;', '', 'a'),
                (f'a = {BIG} + 1; say a;', '', 'a'), ('def f() { a = x; give a; } x = 1;', 'f', 'a'),
                ('x = 1; def f() { a = x; give a; }', 'f', 'a')):
            with self.subTest(text=text, scope=scope), self.assertRaises(BadChange):
                put_in(read(text), scope, name)
        rows = read('a = 1; def f(x) { y = x; } say f(a);')
        for scope, name in (('', 'x'), ('', 'f'), ('', 'none'), ('f', 'a'), ('f', 'x'), ('g', 'a'), ('a', 'a'),
                            ('', '')):
            with self.subTest(scope=scope, name=name), self.assertRaises(NoSuch):
                put_in(rows, scope, name)
        # A param isn't there to be put in, be it set or not.
        with self.assertRaises(NoSuch):
            put_in(read('def f(x) { x = 1; give x; }'), 'f', 'x')
        for bad in NO_PROGRAMS:
            with self.subTest(rows=bad), self.assertRaises(BadTree):
                put_in(bad, '', 'a')

    def test_made_programs(self):
        done = 0
        worths = [read_worth(text) for text in ('1', 'b', '-b', '2 * 3', 'a', 'b + 1', 'new')]
        for number, rows in enumerate(programs(35, 7)):
            for place in range(len(rows) + 1):
                worth = worths[(number + place) % len(worths)]
                behind = read_steps(rows[place:], 'c' if number % 2 else 'none', ('name', 'new'))
                behind = tuple(row for row in behind if number % 3 or row[0] != 'set')
                whole = rows[:place] + (('set', 'new', worth),) + behind
                for scope in scopes_of(whole):
                    for name in names_of(whole, scope):
                        if name in params_of(whole, scope):
                            with self.assertRaises(NoSuch):
                                put_in(whole, scope, name)
                        elif may_be_put_in(whole, scope, name):
                            found = put_in(whole, scope, name)
                            self.assertTrue(same_but_for_steps(found, whole), told_plain(whole))
                            self.assertNotIn(name, [row[1] for row in sets_of(scope_rows(found, scope))])
                            self.assertNotIn(name, reads_of(scope_rows(found, scope)))
                            done += 1
                        else:
                            with self.assertRaises(BadChange):
                                put_in(whole, scope, name)
        self.assertGreater(done, 100)

    def test_worths_that_are_sure(self):
        for lot, answer in ((SURE, True), (UNSURE, False)):
            for text in lot:
                with self.subTest(text=text):
                    self.assertIs(is_sure(read_worth(text)), answer)
                    if answer:
                        value_of(read_worth(text), {'a': -(10 ** 35), 'b': 0})

    def test_worths_that_are_small(self):
        for text, answer in (('1', True), ('a', True), ('-a', True), (str(BIG - 1), True), (str(BIG), False),
                             (f'-{BIG}', False), ('a + 1', True), ('a + b', True), ('1 + 2 + 3', False),
                             ('-(1 + 2)', True), (f'a * {BIG}', False), (f'a * {BIG - 1}', True), ('f(1 + 2)', True),
                             ('f(1 + 2) == 3', False), (f'f({BIG})', False), ('f()', True), ('--(1 < -a)', True)):
            with self.subTest(text=text):
                self.assertIs(all_small(read_worth(text)), answer)

    def test_names_surely_set(self):
        rows = read('z = 1; def f(q, p) { c = 1; if c { d = 1; } b = d; c = 2; } y = 1; while y { x = 1; } w = x;')
        self.assertEqual([surely_set(rows, '', place) for place in range(6)],
                         [(), ('z',), ('y', 'z'), ('y', 'z'), ('w', 'y', 'z'), ('w', 'y', 'z')])
        self.assertEqual([surely_set(rows, 'f', place) for place in range(5)],
                         [('p', 'q'), ('c', 'p', 'q'), ('c', 'p', 'q'), ('b', 'c', 'p', 'q'), ('b', 'c', 'p', 'q')])
        self.assertTrue(tuples_throughout(surely_set(rows, 'f', 2)))
        for scope in ('g', 'z'):
            with self.assertRaises(NoSuch):
                surely_set(rows, scope, 0)

    def test_reads_otherwise(self):
        steps = read('a = 1; say a; if a { a = 2; say b; } else { while a { a = 3; } } b = a + f(a);')
        told = 'say -c; if -c { say b; } else { while -c { } } b = -c + f(-c);'
        self.assertEqual(told_plain(read_steps(steps, 'a', read_worth('-c'))), told)
        self.assertEqual(told_plain(read_steps(list(steps), 'a', read_worth('-c'))), told)
        self.assertTrue(tuples_throughout(read_steps(list(steps), 'a', read_worth('-c'))))
        self.assertEqual(read_steps((), 'a', ('num', 1)), ())
        for text, found in (('a', 'a + 1'), ('b', 'b'), ('a(a)', 'a(a + 1)'), ('-a * b', '-(a + 1) * b'),
                            ('a - a', 'a + 1 - (a + 1)')):
            self.assertEqual(told_worth(read_otherwise(read_worth(text), 'a', read_worth('a + 1'))), found)


class Turned(unittest.TestCase):

    def test_by_hand(self):
        for text, way, told in (
                ('if a { say 1; } else { say 2; }', (0,), 'if a == 0 { say 2; } else { say 1; }'),
                ('if a { say 1; }', (0,), 'if a == 0 { } else { say 1; }'),
                ('if a == 0 { } else { say 1; }', (0,), 'if a == 0 == 0 { say 1; }'),
                ('if a < b == 0 { say 1; } else { say 2; }', (0,), 'if a < b { say 2; } else { say 1; }'),
                ('if a == b == 0 { say 1; } else { say 2; }', (0,), 'if a == b { say 2; } else { say 1; }'),
                ('while 1 { if a { } else if b { say 1; } }', (0, 0, 0), 'while 1 { if a == 0 { if b { say 1; } } }'),
                ('if a { } else if b { say 1; } else { say 2; }', (0, 1, 0),
                 'if a { } else if b == 0 { say 2; } else { say 1; }'),
                ('def f() { if f() { give 1; } }', (0, 0, 0), 'def f() { if f() == 0 { } else { give 1; } }')):
            with self.subTest(text=text):
                found = turned_if(read(text), way)
                self.assertEqual(told_plain(found), told)
                self.assertTrue(tuples_throughout(found))
                self.assertEqual(turned_if(list(read(text)), list(way)), found)

    def test_made_programs(self):
        turned = 0
        for rows in programs(60, 8):
            for way in all_ways(rows):
                step = at_way(rows, way)
                if step[0] != 'if':
                    with self.assertRaises(BadChange):
                        turned_if(rows, way)
                    continue
                found = turned_if(rows, way)
                self.assertTrue(same_runs(rows, found))
                self.assertEqual(blocks_of(at_way(found, way)), blocks_of(step)[::-1])
                self.assertEqual(put_at(found, way, (step,)), rows)
                twice = turned_if(found, way)
                self.assertTrue(same_runs(rows, twice))
                if step[1][:2] in (('op', '=='), ('op', '<')) and told_worth(step[1])[-5:] != ' == 0':
                    self.assertEqual(twice, rows)
                    turned += 1
        self.assertGreater(turned, 10)

    def test_tests(self):
        for text, found in (('a', 'a == 0'), ('1', '1 == 0'), ('a == 0', 'a == 0 == 0'), ('a == 0 == 0', 'a == 0'),
                            ('a < b', 'a < b == 0'), ('a < b == 0', 'a < b'), ('a < b == 1', 'a < b == 1 == 0'),
                            ('a + b == 0', 'a + b == 0 == 0'), ('0 == (a < b)', '0 == (a < b) == 0'),
                            ('(a < b) + 0', '(a < b) + 0 == 0'), ('a == 0 < 0', 'a == 0 < 0 == 0'), ('-a', '-a == 0'),
                            ('-(a < b) == 0', '-(a < b) == 0 == 0'), ('f() == 0', 'f() == 0 == 0'),
                            ('(a < b) * 1 == 0', '(a < b) * 1 == 0 == 0'), ('a < b == -0', 'a < b == -0 == 0')):
            with self.subTest(text=text):
                self.assertEqual(told_worth(turned_test(read_worth(text))), found)
        for text, answer in (('a == b', True), ('a < 1', True), ('a + b', False), ('a', False), ('1', False),
                             ('-(a < b)', False), ('f()', False), ('a < b == 0', True), ('(a < b) * 1', False)):
            self.assertIs(is_test(read_worth(text)), answer)
        for seed in range(200):
            tree = Maker(seed, False).worth(3)
            names = {'a': 0, 'b': 1, 'c': -1}
            self.assertEqual(value_of(turned_test(tree), names) != 0, value_of(tree, names) == 0)
            self.assertEqual(value_of(turned_test(turned_test(tree)), names) != 0, value_of(tree, names) != 0)

    def test_what_is_refused(self):
        rows = read('a = 1; say a; while a { } def f() { give 1; } if a { if a { } }')
        for way in ((0,), (1,), (2,), (3,), (3, 0, 0)):
            with self.subTest(way=way), self.assertRaises(BadChange):
                turned_if(rows, way)
        for way in ((5,), (-1,), (4, 1, 0), (4, 2, 0), (4, 0), (), (0, 0, 0), (4, 0, 0, 0, 0)):
            with self.subTest(way=way), self.assertRaises(NoSuch):
                turned_if(rows, way)
        for bad in NO_PROGRAMS:
            with self.subTest(rows=bad), self.assertRaises(BadTree):
                turned_if(bad, (0,))


class Exchanged(unittest.TestCase):

    def test_by_hand(self):
        for text, way, told in (
                ('a = 1; b = 2;', (0,), 'b = 2; a = 1;'),
                ('say 1; a = 1; b = -2; say 2;', (1,), 'say 1; b = -2; a = 1; say 2;'),
                ('a = 1 + 2; b = 3 < 4; a = 5;', (1,), 'a = 1 + 2; a = 5; b = 3 < 4;'),
                ('while 1 { a = 1; b = 2; }', (0, 0, 0), 'while 1 { b = 2; a = 1; }'),
                ('if 1 { } else { say 1; a = 1; b = 2; }', (0, 1, 1), 'if 1 { } else { say 1; b = 2; a = 1; }'),
                ('def f(a) { a = 1; b = 2; }', (0, 0, 0), 'def f(a) { b = 2; a = 1; }')):
            with self.subTest(text=text):
                found = exchanged(read(text), way)
                self.assertEqual(told_plain(found), told)
                self.assertTrue(tuples_throughout(found))
                self.assertEqual(exchanged(found, list(way)), read(text))
                self.assertEqual(exchanged(list(read(text)), way), found)

    def test_made_programs(self):
        done = 0
        for rows in programs(120, 9):
            for way in all_ways(rows):
                behind = (*way[:-1], way[-1] + 1)
                pair = [at_way(rows, one) for one in (way, behind) if one in all_ways(rows)]
                if len(pair) == 1:
                    with self.assertRaises(NoSuch):
                        exchanged(rows, way)
                elif (all(step[0] == 'set' and sure(step[2]) and reads_of((step,)) == [] for step in pair)
                      and pair[0][1] != pair[1][1]):
                    found = exchanged(rows, way)
                    self.assertTrue(same_runs(rows, found))
                    self.assertEqual([at_way(found, one) for one in (behind, way)], pair)
                    done += 1
                else:
                    with self.assertRaises(BadChange):
                        exchanged(rows, way)
        self.assertGreater(done, 100)

    def test_what_is_refused(self):
        for text in ('a = 1; a = 2;', 'a = 1; say 2;', 'say 1; a = 2;', 'say 1; say 2;', 'a = b; c = 1;',
                     'a = 1; c = b;', 'a = 1; b = a;', 'a = f(); b = 1;', 'a = 1; b = f();', f'a = {BIG} * 1; b = 1;',
                     f'a = 1; b = {BIG} * 1;', 'a = 1; b = 1 + 2 + 3;', 'a = 1; if 1 { }', 'while 1 { } a = 1;',
                     'a = 1; def f() { }', 'a = -b; c = 1;', 'a = 1; c = -b;'):
            with self.subTest(text=text), self.assertRaises(BadChange):
                exchanged(read(text), (0,))
        rows = read('a = 1; if 1 { b = 1; } c = 2;')
        for way in ((2,), (3,), (-1,), (1, 0, 0), (1, 1, 0), (1, 0), (), (0, 0, 0)):
            with self.subTest(way=way), self.assertRaises(NoSuch):
                exchanged(rows, way)
        for bad in NO_PROGRAMS:
            with self.subTest(rows=bad), self.assertRaises(BadTree):
                exchanged(bad, (0,))


class Unchanged(unittest.TestCase):

    def test_steps_handed_in_stay_as_they_were(self):
        rows = list(OUTER_STEPS)
        for way in all_ways(rows):
            for deed in (lambda: turned_if(rows, way), lambda: exchanged(rows, way),
                         lambda: taken_out(rows, way, (), 'new'), lambda: put_in(rows, '', 'a')):
                try:
                    deed()
                except (BadChange, NoSuch):
                    pass
        self.assertEqual(rows, list(OUTER_STEPS))


if __name__ == '__main__':
    unittest.main()
