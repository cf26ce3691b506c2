"""Point 9: names of scopes, defs and the order of params changed, where nothing else is meant by it."""

import itertools
import unittest

from helper import WORTHS, tuples_throughout
from making import Maker, programs
from neatwright.errors import BadChange, BadSign, BadTree, NoSuch
from neatwright.reads import read, read_worth, told_plain, told_worth
from neatwright.renames import (all_calls, all_renames, call_moved, call_otherwise, in_steps, in_worth, is_quiet,
                                mark_calls, params_moved, renamed, renamed_def, set_otherwise)
from neatwright.runs import said
from neatwright.scopes import defs_of, names_of, scope_rows, scopes_of
from neatwright.trees import all_worths

TEXT = 'a = 1; def f(a, b) { c = a; while a { a = b; } give c; } if a { b = a + f(a, b); } say -f(a, 2) * a;'
# Words that are no names.
NO_NAMES = ('', 'if', 'say', 'A', '1a', '_a', 'a b', 'a-', 'def', ' a', 'a\n')
# Rows that are no programs, each of which sets or calls what is asked for.
NO_PROGRAMS = ((('give', ('name', 'a')),), (('set', 'a', ('num', 1)), ('say', 1)),
               read('def f(a) { } a = 1;') + read('def f() { }'), (('while', ('name', 'a'), read('def f() { }')),),
               (('set', 'a', ('num', 1)), ('say',)), [['set', 'a', ('num', 1)]])


def same_runs(one, other, mosts=(0, 3, 20, 60, 1000)):
    return all(said(one, most) == said(other, most) for most in mosts)


class Names(unittest.TestCase):

    def test_renames_by_hand(self):
        for scope, old, new, told in (
                ('', 'a', 'z', TEXT.replace('a = 1', 'z = 1').replace('if a { b = a + f(a', 'if z { b = z + f(z')
                 .replace('-f(a, 2) * a', '-f(z, 2) * z')),
                ('', 'b', 'c', TEXT.replace('{ b = a + f(a, b)', '{ c = a + f(a, c)')),
                ('', 'b', 'f', TEXT.replace('{ b = a + f(a, b)', '{ f = a + f(a, f)')),
                ('f', 'a', 'd', TEXT.replace('f(a, b) { c = a; while a { a = b', 'f(d, b) { c = d; while d { d = b')),
                ('f', 'b', 'e', TEXT.replace('f(a, b) { c', 'f(a, e) { c').replace('a = b;', 'a = e;')),
                ('f', 'c', 'f', TEXT.replace('c = a', 'f = a').replace('give c', 'give f'))):
            with self.subTest(scope=scope, old=old, new=new):
                found = renamed(read(TEXT), scope, old, new)
                self.assertEqual(told_plain(found), told)
                self.assertTrue(tuples_throughout(found))
                self.assertEqual(renamed(found, scope, new, old), read(TEXT))
                self.assertEqual(renamed(list(read(TEXT)), scope, old, new), found)

    def test_made_programs(self):
        for rows in programs(40):
            before = told_plain(rows)
            for scope in scopes_of(rows):
                for old in names_of(rows, scope):
                    found = renamed(rows, scope, old, 'new_1')
                    self.assertTrue(same_runs(rows, found))
                    self.assertEqual(renamed(found, scope, 'new_1', old), rows)
                    self.assertEqual(renamed(rows, scope, old, old), rows)
                    names = [name for name in names_of(rows, scope) if name != old] + ['new_1']
                    self.assertEqual(names_of(found, scope), tuple(sorted(names)))
                    for other in scopes_of(rows):
                        if other != scope:
                            self.assertEqual(scope_rows(found, other), scope_rows(rows, other))
                    self.assertEqual(told_plain(scope_rows(found, scope)).count('new_1'),
                                     [word for word in told_plain(scope_rows(rows, scope)).replace('(', ' ')
                                      .replace(')', ' ').replace('-', ' ').replace(',', ' ').replace(';', ' ').split()
                                      ].count(old))
            self.assertEqual(told_plain(rows), before)

    def test_what_is_refused(self):
        rows = read(TEXT)
        for scope, old, new in (('', 'a', 'b'), ('', 'b', 'a'), ('f', 'a', 'b'), ('f', 'a', 'c'), ('f', 'c', 'b')):
            with self.subTest(scope=scope, old=old, new=new), self.assertRaises(BadChange):
                renamed(rows, scope, old, new)
        for scope, old, new in (('', 'c', 'z'), ('', 'f', 'z'), ('', 'z', 'z'), ('f', 'd', 'z'), ('none', 'a', 'z'),
                                ('a', 'a', 'z'), ('', '', 'z'), ('', 'if', 'z')):
            with self.subTest(scope=scope, old=old, new=new), self.assertRaises(NoSuch):
                renamed(rows, scope, old, new)
        for new in NO_NAMES:
            with self.subTest(new=new), self.assertRaises(BadSign):
                renamed(rows, '', 'a', new)
        # A word that is no name comes first, then what isn't there, then what is there.
        for old in ('a', 'none', 'if'):
            for scope in ('', 'none'):
                with self.assertRaises(BadSign):
                    renamed(rows, scope, old, 'if')
        with self.assertRaises(NoSuch):
            renamed(rows, '', 'none', 'a')
        with self.assertRaises(NoSuch):
            renamed(rows, 'none', 'a', 'b')

    def test_rows_that_are_no_programs(self):
        for rows in NO_PROGRAMS:
            with self.subTest(rows=rows), self.assertRaises(BadTree):
                renamed(rows, '', 'a', 'b')
            with self.subTest(rows=rows), self.assertRaises(BadSign):
                renamed(rows, '', 'a', 'if')

    def test_steps_and_worths(self):
        steps = read('a = a + 1; while a { if b { a = f(a); } else { say a; } } b = 2;')
        told = 'c = c + 1; while c { if b { c = f(c); } else { say c; } } b = 2;'
        self.assertEqual(told_plain(in_steps(steps, 'a', 'c')), told)
        self.assertEqual(told_plain(in_steps(list(steps), 'a', 'c')), told)
        self.assertEqual(in_steps((), 'a', 'c'), ())
        self.assertEqual(in_steps(steps, 'x', 'c'), steps)
        self.assertTrue(tuples_throughout(in_steps(list(steps), 'a', 'c')))
        self.assertEqual(told_plain((set_otherwise(steps[0], 'a', 'c'),)), 'c = a + 1;')
        self.assertEqual(told_plain((set_otherwise(steps[1], 'a', 'c'),)),
                         'while a { if b { c = f(a); } else { say a; } }')
        self.assertEqual(set_otherwise(steps[2], 'a', 'c'), steps[2])
        self.assertTrue(tuples_throughout(set_otherwise(steps[1], 'a', 'c')))
        for text, found in (('a', 'c'), ('b', 'b'), ('1', '1'), ('-a', '-c'), ('a(a, b(a))', 'a(c, b(c))'),
                            ('a + b * a == a', 'c + b * c == c')):
            self.assertEqual(told_worth(in_worth(read_worth(text), 'a', 'c')), found)
        for seed in range(100):
            tree = Maker(seed).worth(4)
            found = in_worth(tree, 'a', 'new')
            self.assertEqual(in_worth(found, 'new', 'a'), tree)
            self.assertNotIn(('name', 'a'), all_worths(found))
        chain = read_worth('a' + ' + a' * 3000)
        self.assertEqual(told_worth(in_worth(chain, 'a', 'c')), 'c' + ' + c' * 3000)

    def test_all_renames(self):
        rows = read('b = a; def f(x, a) { y = x; } def g() { }')
        self.assertEqual(all_renames(rows, ''), (('a', 'x'), ('a', 'y'), ('b', 'x'), ('b', 'y')))
        self.assertEqual(all_renames(rows, 'f'), (('a', 'b'), ('x', 'b'), ('y', 'b')))
        self.assertEqual(all_renames(rows, 'g'), ())
        self.assertEqual(all_renames((), ''), ())
        self.assertEqual(all_renames(read('a = 1; b = 2;'), ''), ())
        self.assertTrue(tuples_throughout(all_renames(rows, '')))
        for scope in ('h', 'a'):
            with self.assertRaises(NoSuch):
                all_renames(rows, scope)
        for made in programs(10):
            for scope in scopes_of(made):
                for old, new in all_renames(made, scope):
                    self.assertTrue(same_runs(made, renamed(made, scope, old, new)))


class Defs(unittest.TestCase):

    def test_renames_by_hand(self):
        rows = read('f = g(); def f(f) { give f(f - 1); } def g() { say f(f(1)); } say -f(2) + f;')
        found = renamed_def(rows, 'f', 'k')
        self.assertEqual(told_plain(found),
                         'f = g(); def k(f) { give k(f - 1); } def g() { say k(k(1)); } say -k(2) + f;')
        self.assertTrue(tuples_throughout(found))
        self.assertEqual(renamed_def(found, 'k', 'f'), rows)
        self.assertEqual(renamed_def(list(rows), 'f', 'k'), found)
        self.assertEqual(renamed_def(rows, 'f', 'f'), rows)
        # A name that is no def's and isn't called may be taken, though it is set.
        self.assertEqual(told_plain(renamed_def(read('a = 1; def f() { } say f();'), 'f', 'a')),
                         'a = 1; def a() { } say a();')

    def test_made_programs(self):
        for rows in programs(40, 4):
            for old in defs_of(rows):
                found = renamed_def(rows, old, 'new')
                self.assertTrue(same_runs(rows, found))
                self.assertEqual(renamed_def(found, 'new', old), rows)
                self.assertEqual(list(defs_of(found)), ['new' if name == old else name for name in defs_of(rows)])
                self.assertNotIn(old, all_calls(found))

    def test_what_is_refused(self):
        rows = read('def f() { give k(); } def g() { } say a;')
        for new in ('g', 'k'):
            with self.subTest(new=new), self.assertRaises(BadChange):
                renamed_def(rows, 'f', new)
        for old, new in (('a', 'z'), ('k', 'z'), ('none', 'z'), ('', 'z'), ('k', 'k'), ('a', 'g'), ('k', 'f')):
            with self.subTest(old=old, new=new), self.assertRaises(NoSuch):
                renamed_def(rows, old, new)
        for new in NO_NAMES:
            for old in ('f', 'none'):
                with self.subTest(old=old, new=new), self.assertRaises(BadSign):
                    renamed_def(rows, old, new)
        # A ring of one is called by itself, and may be called as it is.
        self.assertEqual(renamed_def(read('def f() { give f(); }'), 'f', 'f'), read('def f() { give f(); }'))
        for bad in NO_PROGRAMS:
            with self.subTest(rows=bad), self.assertRaises(BadTree):
                renamed_def(bad, 'f', 'b')

    def test_calls(self):
        for text, found in (('f(1)', 'k(1)'), ('f', 'f'), ('g(f(f()))', 'g(k(k()))'), ('-f() * f(f)', '-k() * k(f)'),
                            ('1', '1'), ('g()', 'g()')):
            self.assertEqual(told_worth(call_otherwise(read_worth(text), 'f', 'k')), found)
        rows = read('say f(g()) + a; def h() { give k() + k(); } while x() { if 1 { } else { a = -y(1); } }')
        self.assertEqual(all_calls(rows), {name: True for name in ('f', 'g', 'k', 'x', 'y')})
        self.assertEqual(all_calls(read('a = 1; def f() { say a; }')), {})
        self.assertEqual(all_calls(()), {})
        found = {'z': True}
        for tree in WORTHS + (read_worth('f(g(1), a) + -h()'),):
            self.assertIs(mark_calls(tree, found), tree)
        self.assertEqual(found, {name: True for name in ('f', 'g', 'h', 'z')})


class Params(unittest.TestCase):

    def test_orders_by_hand(self):
        rows = read('def f(x, y, z) { give x - y * z; } say f(1, 2, -3); '
                    'def g() { give h(f(4 + 1, 5, 6), a); } say f(7, 8, 9) + g();')
        for order, told in (
                ((0, 1, 2), told_plain(rows)),
                ((2, 0, 1), 'def f(z, x, y) { give x - y * z; } say f(-3, 1, 2); '
                 'def g() { give h(f(6, 4 + 1, 5), a); } say f(9, 7, 8) + g();'),
                ([1, 0, 2], 'def f(y, x, z) { give x - y * z; } say f(2, 1, -3); '
                 'def g() { give h(f(5, 4 + 1, 6), a); } say f(8, 7, 9) + g();')):
            with self.subTest(order=order):
                self.assertEqual(told_plain(params_moved(rows, 'f', order)), told)
                self.assertTrue(tuples_throughout(params_moved(list(rows), 'f', order)))
        for order in itertools.permutations(range(3)):
            found = params_moved(rows, 'f', order)
            self.assertTrue(same_runs(rows, found))
            back = [order.index(place) for place in range(3)]
            self.assertEqual(params_moved(found, 'f', back), rows)
        self.assertEqual(params_moved(rows, 'g', ()), rows)
        self.assertEqual(params_moved(read('def f(a, b) { }'), 'f', (1, 0)), read('def f(b, a) { }'))
        self.assertEqual(params_moved(read('def f(a) { } say f(3);'), 'f', [0]), read('def f(a) { } say f(3);'))

    def test_what_is_refused(self):
        for text, name, order in (
                ('def f(a, b) { }', 'f', (0,)), ('def f(a, b) { }', 'f', ()), ('def f(a, b) { }', 'f', (0, 0)),
                ('def f(a, b) { }', 'f', (1, 2)), ('def f(a, b) { }', 'f', (0, 1, 2)),
                ('def f(a, b) { }', 'f', (-1, 0)), ('def f() { }', 'f', (0,)),
                # Calls of another count, or whose worths call or read a name, wherever they stand.
                ('def f(a, b) { } say f(1);', 'f', (0, 1)), ('def f(a, b) { } say f(1, 2, 3);', 'f', (1, 0)),
                ('def f(a, b) { } say f();', 'f', (1, 0)), ('say f(1, 2); def f(a, b) { give f(3); }', 'f', (1, 0)),
                ('def f(a, b) { } say f(1, c);', 'f', (1, 0)), ('def f(a, b) { give f(a, 1); }', 'f', (1, 0)),
                ('def f(a, b) { } say f(g(), 2);', 'f', (1, 0)), ('def f(a, b) { } say f(1, f(1, 2));', 'f', (1, 0)),
                ('def f(a, b) { } say f(1, -(2 + c));', 'f', (0, 1)), ('def f(a) { } say f(c);', 'f', (0,)),
                ('def f(a, b) { } while 0 { say g(1 + f(g(), 1)); }', 'f', (1, 0)), ('def f() { } say f(1);', 'f', ())):
            with self.subTest(text=text, order=order), self.assertRaises(BadChange):
                params_moved(read(text), name, order)
        rows = read('def f(a, b) { } say g(c, 1) + f(1, 2);')
        for name in ('g', 'c', 'none', ''):
            for order in ((1, 0), (0,), ()):
                with self.subTest(name=name), self.assertRaises(NoSuch):
                    params_moved(rows, name, order)
        for bad in NO_PROGRAMS:
            with self.subTest(rows=bad), self.assertRaises(BadTree):
                params_moved(bad, 'f', (0,))

    def test_calls_in_worths(self):
        for text, found in (('f(1, 2)', 'f(2, 1)'), ('g(f(1, 2), a)', 'g(f(2, 1), a)'), ('f', 'f'), ('1', '1'),
                            ('f(1, 2) - -f(3 + 4, 5)', 'f(2, 1) - -f(5, 3 + 4)'), ('g(1)', 'g(1)'), ('h()', 'h()')):
            self.assertEqual(told_worth(call_moved(read_worth(text), 'f', (1, 0))), found)
            self.assertTrue(tuples_throughout(call_moved(read_worth(text), 'f', [1, 0])))
        for text in ('f(1)', 'f()', 'f(1, 2, 3)', 'f(a, 1)', 'f(1, a)', 'f(g(), 1)', 'g(f(1))', '-f(1, 2 * a)'):
            for order in ((1, 0), (0, 1)):
                with self.subTest(text=text), self.assertRaises(BadChange):
                    call_moved(read_worth(text), 'f', order)

    def test_quiet_worths(self):
        for text, answer in (('1', True), ('-1', True), ('1 + 2 * 3', True), ('1 == 2 < 3', True), ('a', False),
                             ('-a', False), ('1 + a', False), ('f()', False), ('1 + -f(1)', False), ('f(a)', False)):
            with self.subTest(text=text):
                self.assertIs(is_quiet(read_worth(text)), answer)


if __name__ == '__main__':
    unittest.main()
