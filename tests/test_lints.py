"""Point 13: slips told with their kinds and places, each once, by kinds, scopes and places."""

import unittest

from helper import OUTER_STEPS, PROGRAM, tuples_throughout
from making import programs
from neatwright.errors import BadTree, NoSuch
from neatwright.flows import idle_sets, unreached, unsure_reads
from neatwright.lints import (KINDS, callers, counts, is_clean, lints, place_key, step_slips, unread_params,
                              without_uncalled)
from neatwright.reads import read, told_plain
from neatwright.scopes import scope_rows, scopes_of
from neatwright.trees import all_steps, all_ways, at_way, is_worth
from oracle import carried_out
from test_folds import NO_PROGRAMS, with_gives

MADE = programs(50, 41) + [with_gives(rows, seed) for seed, rows in enumerate(programs(30, 42))]
MADE += [tuple(row for row in rows if row[:2] != ('def', 'g')) for rows in programs(20, 43)]


def inner_trees(tree):
    """Return all worths within a step's own part, or a worth, by looking at every tuple in it."""
    found = [tree] if is_worth(tree) else []
    if isinstance(tree, tuple):
        for part in tree:
            found += inner_trees(part)
    return found


def own_part(step):
    """Return a step without its blocks."""
    return step[:2] if step[0] in ('if', 'while') else () if step[0] == 'def' else step


def slips_of(rows, step):
    """Return the kinds of slips in a step itself, as the test looks for them."""
    counted = {row[1]: len(row[2]) for row in rows if row[0] == 'def'}
    worths = inner_trees(own_part(step))
    calls = [one for one in worths if one[0] == 'call']
    found = set()
    if any(one[1] not in counted for one in calls):
        found.add('no def')
    if any(len(one[2]) != counted.get(one[1], len(one[2])) for one in calls):
        found.add('count')
    if step[0] in ('if', 'while') and (step[1][0] == 'num' or step[1][0] == 'neg' and step[1][1][0] == 'num'):
        found.add('fixed test')
    if any(one[0] == 'op' and one[1] not in '+*' and one[2] == one[3] and one[2][0] != 'call' for one in worths):
        found.add('same')
    if step[0] == 'set' and step[2] == ('name', step[1]):
        found.add('self')
    return found


def all_slips(rows):
    """Return all slips of a program, as the test looks for them, its flows taken from the package."""
    found = []
    called = {'': [one[1] for row in scope_rows(rows, '') for one in inner_trees(row) if one[0] == 'call']}
    for scope in scopes_of(rows):
        steps = scope_rows(rows, scope)
        called[scope] = [one[1] for step in all_steps(steps) for one in inner_trees(own_part(step)) if one[0] == 'call']
        reads = [one[1] for step in all_steps(steps) for one in inner_trees(own_part(step)) if one[0] == 'name']
        params = [name for row in rows if row[:2] == ('def', scope) for name in row[2]]
        found += [('unset', scope, (*way, name)) for way, name in unsure_reads(rows, scope)]
        found += [('idle', scope, way) for way in idle_sets(rows, scope)]
        found += [('unreached', scope, way) for way in unreached(steps)]
        found += [('unread', scope, name) for name in params if name not in reads]
        found += [(kind, scope, way) for way in all_ways(steps) for kind in slips_of(rows, at_way(steps, way))]
    come_to = ['']
    for scope in come_to:
        come_to += [name for name in called[scope] if name in called and name not in come_to]
    found += [('uncalled', scope, scope) for scope in scopes_of(rows) if scope not in come_to]
    return found


def order_of(slip):
    """Return by what slips stand in order: a text's signs behind numbers, so that a name comes behind its way."""
    kind, scope, place = slip
    place = (place,) if isinstance(place, str) else place
    numbers = [part for part in place if isinstance(part, int)]
    return KINDS.index(kind), scope, numbers, [part for part in place if isinstance(part, str)]


class Slips(unittest.TestCase):

    def test_kinds(self):
        self.assertEqual(KINDS, ('unset', 'idle', 'unread', 'uncalled', 'no def', 'count', 'fixed test', 'same',
                                 'unreached', 'self'))

    def test_each_kind_apart(self):
        for text, slips in (
                ('say a;', [('unset', '', (0, 'a'))]),
                ('if f() { say b + a; } def f() { }', [('unset', '', (0, 0, 0, 'a')), ('unset', '', (0, 0, 0, 'b'))]),
                ('a = 1;', [('idle', '', (0,))]), ('a = 1; a = 2; say a;', [('idle', '', (0,))]),
                ('def f(y, x) { give 1; } say f(1, 2);', [('unread', 'f', 'x'), ('unread', 'f', 'y')]),
                ('def f() { }', [('uncalled', 'f', 'f')]),
                ('def f() { give f(); } def g() { say f(); }', [('uncalled', 'f', 'f'), ('uncalled', 'g', 'g')]),
                ('say g();', [('no def', '', (0,))]), ('say 1; say 1 + -f(1);', [('no def', '', (1,))]),
                ('def f(x) { give x; } say f();', [('count', '', (0,))]),
                ('def f(x) { give x; } say f(f(1, 2));', [('count', '', (0,))]),
                ('if 1 { }', [('fixed test', '', (0,))]), ('while 0 { }', [('fixed test', '', (0,))]),
                ('if -2 { }', [('fixed test', '', (0,))]), ('if 1 + 1 { }', []), ('if --2 { }', []),
                ('a = 1; say a - a;', [('same', '', (1,))]), ('say 2 + (3 < 3);', [('same', '', (0,))]),
                ('a = 1; say a + 1 == a + 1;', [('same', '', (1,))]), ('say 1 + 1;', []), ('say 2 * 2;', []),
                ('def f() { } say f() - f();', []), ('def f() { } say f() == f();', []),
                ('def f() { } say -f() == -f();', [('same', '', (0,))]), ('say 1 == -1;', []),
                ('def f() { give 1; say 2; if 2 < 3 { say 3; } } say f();',
                 [('unreached', 'f', (1,)), ('unreached', 'f', (2,))]),
                ('def f(x) { if x { give 1; say 2; } give 3; while x { a = 4; give 5; b = 6; } } say f(1);',
                 [('unreached', 'f', (0, 0, 1)), ('unreached', 'f', (2,)), ('unreached', 'f', (2, 0, 2))]),
                ('a = 1; if a { a = a; } say a;', [('self', '', (1, 0, 0))]),
                ('a = -a;', [('unset', '', (0, 'a')), ('idle', '', (0,))])):
            with self.subTest(text=text):
                found = lints(read(text))
                self.assertEqual(found, tuple(slips))
                self.assertTrue(tuples_throughout(found))
                self.assertEqual(lints(list(read(text))), found)
                self.assertIs(is_clean(read(text)), slips == [])

    def test_several_in_one_step(self):
        rows = read('def f(x) { give x; } a = a; while 1 { a = f() + f() + g() + g() + (b - b) + (b < b); } '
                    'if f(1, 2) == g() { } else { a = a; }')
        self.assertEqual(lints(rows), (
            ('unset', '', (0, 'a')), ('unset', '', (1, 0, 0, 'b')), ('idle', '', (2, 1, 0)),
            ('no def', '', (1, 0, 0)), ('no def', '', (2,)), ('count', '', (1, 0, 0)), ('count', '', (2,)),
            ('fixed test', '', (1,)), ('same', '', (1, 0, 0)), ('self', '', (0,)), ('self', '', (2, 1, 0))))

    def test_in_order(self):
        rows = read('def z(p, o) { say q; if 1 { say q; say w; say v; } } def c(p) { if 1 { if 2 { } } if 3 { } } '
                    'say z(1, 2); say c(1); say y; if y { say x; } def b() { }')
        self.assertEqual(lints(rows), (
            ('unset', '', (2, 'y')), ('unset', '', (3, 0, 0, 'x')),
            ('unset', 'z', (0, 'q')), ('unset', 'z', (1, 0, 1, 'w')), ('unset', 'z', (1, 0, 2, 'v')),
            ('unread', 'c', 'p'), ('unread', 'z', 'o'), ('unread', 'z', 'p'), ('uncalled', 'b', 'b'),
            ('fixed test', 'c', (0,)), ('fixed test', 'c', (0, 0, 0)), ('fixed test', 'c', (1,)),
            ('fixed test', 'z', (1,))))

    def test_made_programs(self):
        kinds = {}
        for rows in MADE:
            found = lints(rows)
            self.assertEqual(found, tuple(sorted(all_slips(rows), key=order_of)))
            self.assertEqual(len(set(found)), len(found))
            self.assertTrue(tuples_throughout(found))
            told = counts(rows)
            self.assertEqual(list(told), [kind for kind in KINDS if kind in [slip[0] for slip in found]])
            for kind, count in told.items():
                self.assertEqual(count, len([slip for slip in found if slip[0] == kind]))
                kinds[kind] = kinds.get(kind, 0) + count
            self.assertIs(is_clean(rows), found == ())
        self.assertGreater(min(kinds.get(kind, 0) for kind in KINDS), 5)

    def test_a_program_without_slips(self):
        for text in ('', 'say 1;', 'def f(x) { y = x; while y { y = y - 1; } give x * x; } a = f(2); say a;'):
            with self.subTest(text=text):
                self.assertEqual((lints(read(text)), counts(read(text)), is_clean(read(text))), ((), {}, True))

    def test_steps_themselves(self):
        rows = read('def f(x) { }')
        for text, kinds in (
                ('a = a;', ('self',)), ('a = 1;', ()), ('say a;', ()), ('if 1 { say g(); }', ('fixed test',)),
                ('while f() - g() { say a - a; }', ('no def', 'count')), ('if 1 == 1 { }', ('same',)),
                ('say f(1) + f(1, 2) + g(a == a);', ('no def', 'count', 'same')), ('def g() { say 1 - 1; }', ()),
                ('a = f(1);', ()), ('say f(f(1));', ())):
            with self.subTest(text=text):
                self.assertEqual(step_slips(rows, read(text)[0]), kinds)

    def test_long_chains(self):
        chain = 'b' + ' + b' * 2500
        self.assertEqual(lints(read(f'b = 1; say ({chain}) - ({chain});')), (('same', '', (1,)),))
        self.assertEqual(lints(read(f'b = 1; say ({chain}) - ({chain} + b);')), ())


class Places(unittest.TestCase):

    def test_by_what_places_stand_in_order(self):
        for place, key in (((0,), ((0,), '')), ((0, 1, 2), ((0, 1, 2), '')), ((0, 1, 2, 'a'), ((0, 1, 2), 'a')),
                           ('x', ((), 'x')), ((3, 'b'), ((3,), 'b')),
                           ((), ((), '')), ([1, 0, 2], ((1, 0, 2), '')), ([1, 'a'], ((1,), 'a'))):
            self.assertEqual(place_key(place), key)
        places = ['a', 'b', (0,), (0, 'a'), (0, 'b'), (0, 0, 0), (0, 0, 0, 'a'), (0, 1, 0), (1,), (10,), (10, 'a')]
        self.assertEqual(sorted(places[::-1], key=place_key), places)

    def test_params_that_nothing_reads(self):
        rows = read('def f(z, y, x) { say y; } def g(a) { a = 1; } def h(a) { a = 1; say a; } def e() { }')
        self.assertEqual([unread_params(rows, scope) for scope in scopes_of(rows)],
                         [(), ('z', 'x'), ('a',), (), ()])
        for scope in ('none', 'x', '-'):
            with self.subTest(scope=scope), self.assertRaises(NoSuch):
                unread_params(rows, scope)

    def test_callers(self):
        rows = read('def z() { give a(); } def a() { give a() + b(); } if 0 { say 1 + a(z()); } def c() { }')
        self.assertEqual({name: callers(rows, name) for name in ('a', 'b', 'c', 'z', 'none')},
                         {'a': ('', 'z', 'a'), 'b': ('a',), 'c': (), 'z': ('',), 'none': ()})
        self.assertEqual(callers((), 'a'), ())
        for made in MADE[:30]:
            for name in ('f', 'g', 'h'):
                mine = [scope for scope in scopes_of(made)
                        if any(one[:2] == ('call', name) for step in all_steps(scope_rows(made, scope))
                               for one in inner_trees(own_part(step)))]
                self.assertEqual(callers(made, name), tuple(mine))


class WithoutUncalled(unittest.TestCase):

    def test_by_hand(self):
        for text, told in (
                ('', ''), ('def f() { } say 1;', 'say 1;'), ('def f() { } say f();', 'def f() { } say f();'),
                ('say 1; def f() { give g(); } def g() { give f(); } say 2;', 'say 1; say 2;'),
                ('def f() { give g(); } def g() { } def h() { give f(); } say f();',
                 'def f() { give g(); } def g() { } say f();')):
            with self.subTest(text=text):
                found = without_uncalled(read(text))
                self.assertEqual(told_plain(found), told)
                self.assertTrue(tuples_throughout(found))
                self.assertEqual(without_uncalled(list(read(text))), found)

    def test_it_says_the_same(self):
        fewer = 0
        for rows in MADE:
            found = without_uncalled(rows)
            lost = len(rows) - len(found)
            for most in (30, 500):
                self.assertEqual(carried_out(rows, most + lost)[:2], carried_out(found, most)[:2])
            self.assertNotIn('uncalled', counts(found))
            self.assertEqual(lost, counts(rows).get('uncalled', 0))
            fewer += lost > 0
        self.assertGreater(fewer, 5)


class Refused(unittest.TestCase):

    def test_what_is_no_program(self):
        for rows in NO_PROGRAMS:
            for deed in (lints, counts, is_clean, without_uncalled):
                with self.subTest(rows=rows, deed=deed), self.assertRaises(BadTree):
                    deed(rows)

    def test_what_is_handed_in_stays(self):
        for rows in (list(OUTER_STEPS), list(PROGRAM)):
            before = list(rows)
            lints(rows)
            without_uncalled(rows)
            self.assertEqual(rows, before)


if __name__ == '__main__':
    unittest.main()
