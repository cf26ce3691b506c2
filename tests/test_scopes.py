"""Point 8: what is set, read and called in each scope, and what is come to by calls."""

import unittest

from helper import tuples_throughout
from making import programs
from neatwright.errors import NoSuch
from neatwright.reads import read
from neatwright.scopes import (calls_of, counts_of, defs_of, fresh_name, names_of, params_of, reached, reads_in, rings,
                               scope_rows, scopes_of, sets_in, unmade)

PROGRAM = read(
    'z = 1; '
    'def g(q, p) { while p { r = r + h(q); } give f(g(1, 2)); } '
    'if z { y = z * z; } else { while x { w = f(k()); } } '
    'def f() { say 1; } '
    'def lone(b, a) { lone = 3; give h(1); } '
    'def h(n) { if n { give g(n, n - 1); } give e(); } '
    'say z + f(); '
    'def self() { give self(); }')


def walk(steps):
    """Return (sets, reads, calls) of steps and of all within them, as they come."""
    sets, reads, calls = [], [], []

    def look(tree):
        if not isinstance(tree, tuple):
            return
        if tree[:1] == ('name',):
            reads.append(tree[1])
        elif tree[:1] == ('call',):
            calls.append(tree[1])
        elif tree[:1] == ('set',):
            sets.append(tree[1])
        elif tree[:1] == ('def',):
            return
        for part in tree:
            look(part)

    look(steps)
    return sets, reads, calls


def once(names):
    return tuple(sorted(set(names)))


class Scopes(unittest.TestCase):

    def test_a_program_by_hand(self):
        self.assertEqual(scopes_of(PROGRAM), ('', 'g', 'f', 'lone', 'h', 'self'))
        self.assertEqual(list(defs_of(PROGRAM)), ['g', 'f', 'lone', 'h', 'self'])
        self.assertEqual(defs_of(PROGRAM)['f'], ('def', 'f', (), (('say', ('num', 1)),)))
        self.assertEqual(scope_rows(PROGRAM, ''), (PROGRAM[0], PROGRAM[2], PROGRAM[6]))
        self.assertEqual(scope_rows(PROGRAM, 'f'), (('say', ('num', 1)),))
        self.assertEqual([params_of(PROGRAM, scope) for scope in scopes_of(PROGRAM)],
                         [(), ('q', 'p'), (), ('b', 'a'), ('n',), ()])
        self.assertEqual([names_of(PROGRAM, scope) for scope in scopes_of(PROGRAM)],
                         [('w', 'x', 'y', 'z'), ('p', 'q', 'r'), (), ('a', 'b', 'lone'), ('n',), ()])
        self.assertEqual([calls_of(PROGRAM, scope) for scope in scopes_of(PROGRAM)],
                         [('f', 'k'), ('f', 'g', 'h'), (), ('h',), ('e', 'g'), ('self',)])
        self.assertEqual([reached(PROGRAM, scope) for scope in scopes_of(PROGRAM)],
                         [('f',), ('f', 'g', 'h'), (), ('f', 'g', 'h'), ('f', 'g', 'h'), ('self',)])
        self.assertEqual(rings(PROGRAM), ('g', 'h', 'self'))
        self.assertEqual(unmade(PROGRAM), ('e', 'k'))
        self.assertEqual(counts_of(PROGRAM, ''), {'w': (1, 0), 'x': (0, 1), 'y': (1, 0), 'z': (1, 4)})
        self.assertEqual(counts_of(PROGRAM, 'g'), {'p': (0, 1), 'q': (0, 1), 'r': (1, 1)})
        self.assertEqual(counts_of(PROGRAM, 'lone'), {'a': (0, 0), 'b': (0, 0), 'lone': (1, 0)})
        self.assertEqual(counts_of(PROGRAM, 'f'), {})
        self.assertEqual(list(counts_of(PROGRAM, '')), ['w', 'x', 'y', 'z'])
        # A call's name is no name that is read, be it set or not.
        self.assertEqual(counts_of(read('f = 1; say f + f(f(2)); g = g();'), ''), {'f': (1, 1), 'g': (1, 0)})

    def test_made_programs_as_the_test_goes_through_them(self):
        for rows in programs(60) + [PROGRAM]:
            defs = [row for row in rows if row[0] == 'def']
            self.assertEqual(defs_of(rows), {row[1]: row for row in defs})
            self.assertEqual(scopes_of(rows), ('', *[row[1] for row in defs]))
            called = []
            for scope in scopes_of(rows):
                steps = tuple(row for row in rows if row[0] != 'def')
                params = ()
                for row in defs:
                    if row[1] == scope:
                        params, steps = row[2], row[3]
                sets, reads, calls = walk(steps)
                called += calls
                self.assertEqual(scope_rows(rows, scope), steps)
                self.assertEqual(params_of(rows, scope), params)
                self.assertEqual(sets_in(steps), once(sets))
                self.assertEqual(reads_in(steps), once(reads))
                self.assertEqual(names_of(rows, scope), once([*params, *sets, *reads]))
                self.assertEqual(calls_of(rows, scope), once(calls))
                counts = counts_of(rows, scope)
                self.assertEqual(list(counts), list(names_of(rows, scope)))
                for name, count in counts.items():
                    self.assertEqual(count, (sets.count(name), reads.count(name)))
                for found in (scope_rows(rows, scope), params_of(rows, scope), sets_in(steps), reads_in(steps),
                              names_of(rows, scope), calls_of(rows, scope), reached(rows, scope)):
                    self.assertTrue(tuples_throughout(found))
            self.assertEqual(unmade(rows), once(name for name in called if name not in defs_of(rows)))

    def test_what_is_come_to_by_calls(self):
        for text, scope, found in (
                ('say f();', '', ()), ('def f() { }', '', ()), ('def f() { } say f();', '', ('f',)),
                ('def f() { give f(); }', '', ()), ('def f() { give f(); }', 'f', ('f',)),
                ('def f() { give g(); } def g() { give k(); } say f();', '', ('f', 'g')),
                ('def b() { give a(); } def a() { give b(); } while 0 { if b() { } }', '', ('a', 'b')),
                ('def b() { give a(); } def a() { give b(); }', 'a', ('a', 'b')),
                ('def a() { } def b(x) { } say b(a());', '', ('a', 'b')),
                ('def a() { } def b(x) { say -a() + 1; } if 0 { say 1 * b(2); }', '', ('a', 'b')),
                ('def a() { give b(); } def b() { give c(); } def c() { give a(); }', 'b', ('a', 'b', 'c'))):
            with self.subTest(text=text, scope=scope):
                self.assertEqual(reached(read(text), scope), found)

    def test_rings_and_what_is_unmade(self):
        for text, ringed, missing in (
                ('', (), ()), ('def f() { }', (), ()), ('def f() { give f(); }', ('f',), ()),
                ('def f() { give g(); } def g() { give f(); } def h() { give f(); }', ('f', 'g'), ()),
                ('def b() { give a(); } def a() { say 1; give b(); }', ('a', 'b'), ()),
                ('say z() + a(z());', (), ('a', 'z')), ('def f() { give z(); } say f() + b();', (), ('b', 'z')),
                ('f = 1; say f();', (), ('f',))):
            with self.subTest(text=text):
                self.assertEqual(rings(read(text)), ringed)
                self.assertEqual(unmade(read(text)), missing)

    def test_steps_sets_and_reads(self):
        steps = read('b = a; while c { b = 1; if d { aa = f(e); } else { say -b; } }')
        self.assertEqual(sets_in(steps), ('aa', 'b'))
        self.assertEqual(reads_in(steps), ('a', 'b', 'c', 'd', 'e'))
        self.assertEqual(sets_in(list(steps)), ('aa', 'b'))
        self.assertEqual((sets_in(()), reads_in(())), ((), ()))

    def test_fresh_names(self):
        rows = read('a = 1; b = a2; b2 = b3; def f(a, c) { c2 = a; } def g() { }')
        for scope, base, name in (('', 'a', 'a3'), ('', 'b', 'b4'), ('', 'c', 'c'), ('', 'f', 'f'), ('f', 'a', 'a2'),
                                  ('f', 'c', 'c3'), ('f', 'b', 'b'), ('g', 'a', 'a'), ('', 'a2', 'a22'),
                                  ('f', 'c2', 'c22')):
            with self.subTest(scope=scope, base=base):
                self.assertEqual(fresh_name(rows, scope, base), name)
        many = read('n = 1; ' + ' '.join(f'n{number} = 1;' for number in range(2, 12)))
        self.assertEqual(fresh_name(many, '', 'n'), 'n12')

    def test_rows_that_are_a_list(self):
        self.assertEqual(scope_rows(list(PROGRAM), ''), scope_rows(PROGRAM, ''))
        self.assertEqual(scopes_of(list(PROGRAM)), scopes_of(PROGRAM))
        self.assertEqual(reached(list(PROGRAM), 'lone'), ('f', 'g', 'h'))

    def test_bare_programs(self):
        self.assertEqual((defs_of(()), scopes_of(()), scope_rows((), '')), ({}, ('',), ()))
        self.assertEqual((params_of((), ''), names_of((), ''), counts_of((), ''), calls_of((), '')), ((), (), {}, ()))
        self.assertEqual((reached((), ''), rings(()), unmade(()), fresh_name((), '', 'a')), ((), (), (), 'a'))

    def test_scopes_that_are_not_there(self):
        for rows in ((), PROGRAM, read('a = f();')):
            for scope in ('a', 'none', 'k', ' ', '-', 'e'):
                for deed in (scope_rows, params_of, names_of, counts_of, calls_of, reached):
                    with self.subTest(scope=scope, deed=deed), self.assertRaises(NoSuch):
                        deed(rows, scope)
                with self.assertRaises(NoSuch):
                    fresh_name(rows, scope, 'a')


if __name__ == '__main__':
    unittest.main()
