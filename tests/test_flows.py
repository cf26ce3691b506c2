"""Point 12: flows, held against all ways through steps as the test goes them, two rounds of each while at most."""

import unittest

from helper import OUTER_STEPS, tuples_throughout
from making import Maker, programs
from neatwright.errors import BadSize, NoSuch
from neatwright.flows import (Flow, all_paths, idle_in, idle_sets, read_ahead_of, read_behind, step_paths,
                              surely_set_behind, unreached, unsure_reads)
from neatwright.reads import read
from neatwright.scopes import params_of, scope_rows, scopes_of
from neatwright.trees import all_ways, at_way, inner_worths

NAMES = ('a', 'b', 'c', 'd')
MOST_WAYS = 1500


class TooMany(Exception):
    """More ways than a test goes through."""


def read_names(tree):
    """Return the names that a worth reads, by their letters."""
    if tree[0] == 'name':
        return {tree[1]}
    return set().union(*[read_names(one) for one in inner_worths(tree)])


def go(rows, rounds, head=()):
    """Return all ways through steps, each a list of (mark, way, name), the last one "give" where it gives."""
    found = [[]]
    for place, row in enumerate(rows):
        found = joined(found, through(row, rounds, (*head, place)))
    return found


def joined(ones, others):
    found = []
    for one in ones:
        found += [one] if gives(one) else [one + other for other in others]
    if len(found) > MOST_WAYS:
        raise TooMany
    return found


def gives(path):
    return path != [] and path[-1][0] == 'give'


def through(row, rounds, way):
    if row[0] == 'def':
        return [[('at', way, '')]]
    worth = row[1] if row[0] in ('if', 'while', 'say', 'give') else row[2]
    start = [('at', way, '')] + [('read', way, name) for name in sorted(read_names(worth))]
    if row[0] == 'set':
        return [start + [('set', way, row[1])]]
    if row[0] == 'give':
        return [start + [('give', way, '')]]
    if row[0] == 'if':
        return joined([start], go(row[2], rounds, (*way, 0))) + joined([start], go(row[3], rounds, (*way, 1)))
    found = last = [start] if row[0] == 'while' else []
    for _ in range(rounds if row[0] == 'while' else 0):
        last = joined(joined([path for path in last if not gives(path)], go(row[2], rounds, (*way, 0))), [start])
        found = found + last
    return found if row[0] == 'while' else [start]


def marks_of(path):
    return [(mark, name) for mark, _, name in path if mark in ('read', 'set')]


def unsure(paths, names):
    found = set()
    for path in paths:
        there = set(names)
        for mark, way, name in path:
            if mark == 'read' and name not in there:
                found.add((way, name))
            there.add(name)
    return tuple(sorted(found))


def surely(paths, names):
    """Return the names that each way which comes to the end has set or read, None where none does."""
    ends = [{name for mark, _, name in path if mark in ('read', 'set')} for path in paths if not gives(path)]
    return None if ends == [] else tuple(sorted(set.intersection(*ends) | set(names)))


def idle(paths, behind=()):
    """Return the ways of sets that are come to and read on no way."""
    come_to, needed = set(), set()
    for path in paths:
        for number, (mark, way, name) in enumerate(path):
            if mark == 'set':
                come_to.add(way)
                later = [one for one, _, other in path[number + 1:] if other == name and one in ('read', 'set')]
                if later[:1] == ['read'] or later == [] and not gives(path) and name in behind:
                    needed.add(way)
    return sorted(come_to - needed)


def come_to(paths):
    """Return the ways of the steps that are on some way."""
    return {way for path in paths for mark, way, _ in path if mark == 'at'}


def gone_past(rows, head=()):
    """Return the ways of steps that no way through the row of steps they stand in goes by, for each row by itself."""
    own = [(*head, place) for place in range(len(rows))]
    seen = come_to(go(rows, 0, head))
    found = [way for way in own if way not in seen]
    for way, row in zip(own, rows):
        for block, lot in enumerate([part for part in row[2:] if row[0] in ('if', 'while')]):
            found += gone_past(lot, (*way, block))
    return found


def live(paths, behind):
    """Return the names that are read on some way from its beginning on."""
    found = set()
    for path in paths:
        for name in NAMES:
            first = [mark for mark, _, other in path if other == name and mark in ('read', 'set')][:1]
            if first == ['read'] or first == [] and not gives(path) and name in behind:
                found.add(name)
    return tuple(sorted(found))


def lots_of_steps():
    """Return rows of steps with their ways of up to two rounds each, where those are not too many."""
    found = []
    made = [Maker(seed).block(2, True, 5) for seed in range(500)]
    made += [scope_rows(rows, scope) for rows in programs(60, 31) for scope in scopes_of(rows)]
    for rows in made:
        try:
            found.append((rows, go(rows, 2)))
        except TooMany:
            pass
    return found


LOTS = lots_of_steps()


class Set(unittest.TestCase):

    def test_there_are_enough_lots(self):
        self.assertGreater(len(LOTS), 400)
        kinds = [at_way(rows, way)[0] for rows, _ in LOTS for way in all_ways(rows)]
        self.assertGreater(min(kinds.count(kind) for kind in ('set', 'say', 'give', 'if', 'while')), 100)

    def test_reads_that_may_be_unset_and_names_surely_set(self):
        for rows, paths in LOTS:
            for names in ((), ('a',), ('a', 'c')):
                flow = Flow(rows, names)
                self.assertEqual(flow.unsure, list(unsure(paths, names)))
                behind = surely(paths, names)
                self.assertEqual(flow.behind if behind is None else tuple(sorted(flow.behind)), behind)

    def test_scopes_with_their_params(self):
        for rows in programs(80, 32):
            for scope in scopes_of(rows):
                flow = Flow(scope_rows(rows, scope), params_of(rows, scope))
                found = unsure_reads(rows, scope)
                self.assertEqual(found, tuple(flow.unsure))
                self.assertEqual(found, tuple(sorted(found)))
                behind = surely_set_behind(rows, scope)
                self.assertEqual(behind, flow.behind if flow.behind is None else tuple(sorted(flow.behind)))
                self.assertTrue(tuples_throughout((found, behind)))

    def test_by_hand(self):
        for text, reads, behind in (
                ('', (), ()), ('a = 1; say a;', (), ('a',)), ('say a; say a;', (((0,), 'a'),), ('a',)),
                ('a = a;', (((0,), 'a'),), ('a',)), ('say b + a + b;', (((0,), 'a'), ((0,), 'b')), ('a', 'b')),
                ('if z { a = 1; } else { say a; } say a;', (((0,), 'z'), ((0, 1, 0), 'a')), ('a', 'z')),
                ('if 1 { a = 1; } say a;', (((1,), 'a'),), ('a',)), ('if 1 { a = 1; b = 2; } else { b = 3; }', (), ('b',)),
                ('while 1 { a = 1; } say a;', (((1,), 'a'),), ('a',)),
                ('while a { b = 1; }', (((0,), 'a'),), ('a',)), ('while 1 { say a; a = 1; }', (((0, 0, 0), 'a'),), ()),
                ('a = f(b, g());', (((0,), 'b'),), ('a', 'b'))):
            with self.subTest(text=text):
                self.assertEqual((unsure_reads(read(text), ''), surely_set_behind(read(text), '')), (reads, behind))
        for body, reads, behind in (
                ('', (), ('x', 'y')), ('give x;', (), None), ('give z; say z; say w;', (((0,), 'z'),), None),
                ('if x { give 1; } else { a = 1; } say a;', (), ('a', 'x', 'y')),
                ('if x { give 1; } else { give 2; } say a;', (), None),
                ('if x { a = 1; } else { if y { give 2; } else { give 3; } } say a;', (), ('a', 'x', 'y')),
                ('while x { give a; } say a;', (((0, 0, 0), 'a'), ((1,), 'a')), ('a', 'x', 'y')),
                ('while x { if y { give 1; } else { a = 1; } } give a;', (((1,), 'a'),), None)):
            with self.subTest(body=body):
                rows = read('a = 1; w = 2; def f(y, x) { ' + body + ' }')
                self.assertEqual((unsure_reads(rows, 'f'), surely_set_behind(rows, 'f')), (reads, behind))

    def test_a_flows_own_methods(self):
        rows = read('a = b; if a { c = 1; say d; }')
        flow = Flow((), ('z',))
        self.assertEqual((flow.unsure, sorted(flow.behind)), ([], ['z']))
        names = {'b': True}
        self.assertEqual(sorted(flow.go(rows, names, (4, 0))), ['a', 'b'])
        self.assertEqual(flow.unsure, [((4, 0, 1, 0, 1), 'd')])
        self.assertEqual(sorted(flow.behind_step(rows[0], {}, (7,))), ['a', 'b'])
        flow.reads(('say', ('op', '+', ('name', 'q'), ('name', 'b'))), names, (8,))
        self.assertEqual(flow.unsure[1:], [((7,), 'b'), ((8,), 'q')])
        self.assertIsNone(flow.behind_step(('give', ('num', 1)), names, (0,)))
        self.assertIsNone(flow.go((('give', ('num', 1)), ('say', ('name', 'no'))), names, ()))
        self.assertEqual(names, {'b': True})
        self.assertEqual(len(flow.unsure), 3)


class Read(unittest.TestCase):

    def test_names_read_behind_and_ahead(self):
        for rows, paths in LOTS:
            for names in ((), ('b',), ('c', 'a', 'c'), NAMES):
                self.assertEqual(read_behind(rows, names), live(paths, names))
            for way in all_ways(rows)[:6]:
                row = at_way(rows, way)
                for names in ((), ('b',), NAMES):
                    found = read_ahead_of(row, {name: True for name in names})
                    self.assertEqual(tuple(sorted(found)), live(through(row, 2, ()), names))

    def test_sets_that_are_idle(self):
        some = 0
        for rows, paths in LOTS:
            program = (('def', 'f', (), rows),)
            self.assertEqual(idle_sets(program, 'f'), tuple(idle(paths)))
            some += len(idle(paths))
            for names in ((), ('b', 'c')):
                found = []
                idle_in(rows, {name: True for name in names}, (5, 1), found)
                self.assertEqual(found, [(5, 1, *way) for way in idle(paths, names)])
        self.assertGreater(some, 200)

    def test_sets_that_are_not_come_to(self):
        lost = 0
        for rows, paths in LOTS:
            seen = come_to(paths)
            found = []
            idle_in(rows, {}, (), found)
            self.assertTrue(set(found) <= seen)
            lost += len([way for way in all_ways(rows) if way not in seen and at_way(rows, way)[0] == 'set'])
        self.assertGreater(lost, 40)
        for body, behind, ways in (
                ('give 1; c = 2;', (), []), ('c = 1; give 1; c = 2;', (), [(0,)]), ('c = 1; give 1; c = 2;', 'c', [(0,)]),
                ('give 1; if 1 { a = 1; } else { b = 1; } c = 1;', (), []),
                ('give 1; while 1 { while 1 { a = 1; } b = 1; }', (), []),
                ('if 1 { give 1; } else { give 2; } a = 1; if 1 { b = 1; } while 1 { c = 1; }', (), []),
                ('if 1 { give 1; } else if 1 { give 2; a = 1; } else { give 3; } a = 1;', (), []),
                ('if 1 { give 1; } else { } a = 1;', (), [(1,)]), ('while 1 { give 1; a = 1; } b = 1;', (), [(1,)]),
                # A give within one block ends that block alone.
                ('if 1 { a = 1; give 1; b = 1; } else { c = 1; } d = 1;', (), [(0, 0, 0), (0, 1, 0), (1,)]),
                ('if 1 { a = 1; give a; a = 2; } else { a = 3; }', 'a', []),
                # What is not come to reads nothing either.
                ('a = 1; give 1; say a;', 'a', [(0,)])):
            with self.subTest(body=body, behind=behind):
                rows = read('def f() { ' + body + ' }')
                found = []
                idle_in(rows[0][3], {name: True for name in behind}, (), found)
                self.assertEqual(found, ways)
                if behind == ():
                    self.assertEqual(idle_sets(rows, 'f'), tuple(ways))

    def test_idle_sets_stand_behind_those_found_ahead(self):
        found = [(9,)]
        self.assertIsNone(idle_in(read('a = 1; b = 2;'), {'b': True}, (2, 0), found))
        self.assertEqual(found, [(9,), (2, 0, 0)])

    def test_by_hand(self):
        for text, ways in (
                ('', ()), ('a = 1;', ((0,),)), ('a = 1; say a;', ()), ('a = 1; a = 2; say a;', ((0,),)),
                ('a = 1; a = a + 1;', ((1,),)), ('if 1 { a = 1; } else { a = 2; } say a;', ()),
                ('a = 1; if 1 { a = 2; } say a;', ()), ('a = 1; if 1 { a = 2; } else { a = 3; } say a;', ((0,),)),
                ('a = 1; while a { a = a - 1; }', ()), ('a = 1; while 1 { a = 2; } say a;', ()),
                ('while 1 { say a; a = 2; }', ()), ('while 1 { a = 2; a = 3; say a; }', ((0, 0, 0),)),
                ('while 1 { b = 1; while 1 { a = b; } say a; }', ()), ('a = 1; say f(a);', ()),
                ('a = 1; while 1 { while 1 { b = a; } say b; }', ()), ('if 1 { a = 1; }', ((0, 0, 0),))):
            with self.subTest(text=text):
                self.assertEqual(idle_sets(read(text), ''), ways)
                self.assertTrue(tuples_throughout(idle_sets(read(text), '')))
        # What can't be come to is no idle set, and what is given is no longer read behind.
        rows = read('def f(x) { a = 1; b = 2; if x { give a; c = 3; } else { give 1; } say b; d = 4; if x { e = 1; } }')
        self.assertEqual(idle_sets(rows, 'f'), ((1,),))
        rows = read('def f(x) { a = 1; if x { give x; b = 2; } give a; if x { while x { c = 3; } d = 4; give 1; } '
                    'while x { if x { } else if x { e = 5; } } }')
        self.assertEqual(idle_sets(rows, 'f'), ())
        self.assertEqual(read_behind(read('a = b; say a + c;'), ['a', 'd', 'b']), ('b', 'c', 'd'))
        self.assertEqual(read_behind((), ('b', 'a', 'b')), ('a', 'b'))

    def test_tables_handed_in_stay(self):
        behind = {'a': True, 'z': True}
        for row in OUTER_STEPS:
            read_ahead_of(row, behind)
            idle_in((row,), behind, (), [])
        self.assertEqual(behind, {'a': True, 'z': True})


class Reached(unittest.TestCase):

    def test_what_stands_behind_a_give(self):
        some = 0
        for rows, paths in LOTS:
            found = unreached(rows)
            self.assertEqual(found, sorted(gone_past(rows)))
            self.assertIsInstance(found, list)
            self.assertTrue(tuples_throughout(tuple(found)))
            some += len(found)
        self.assertGreater(some, 100)

    def test_what_is_not_come_to_stands_behind_a_give_or_within_such(self):
        within = 0
        for rows, paths in LOTS:
            seen, found = come_to(paths), unreached(rows)
            for way in all_ways(rows):
                about = [way[:length] for length in range(1, len(way) + 1, 2)]
                self.assertIs(way not in seen, any(one in found for one in about))
                within += way not in seen and way not in found
        self.assertGreater(within, 40)

    def test_by_hand(self):
        for body, ways in (
                ('', []), ('give 1;', []), ('give 1; say 1; say 2;', [(1,), (2,)]),
                ('if a { give 1; say 1; } say 2;', [(0, 0, 1)]),
                ('if a { give 1; } else { give 2; } say 2;', [(1,)]),
                # What stands first in a block stands behind nothing, also where its block isn't come to.
                ('give 1; if a { say 1; } else { say 2; }', [(1,)]),
                ('give 1; say 1; if 1 { give 1; say 1; }', [(1,), (2,), (2, 0, 1)]),
                ('give 1; if a { say 1; say 2; } else { give 2; say 3; say 4; } say 5;',
                 [(1,), (1, 1, 1), (1, 1, 2), (2,)]),
                ('give 1; while a { if a { give 2; } else { give 3; } if a { say 1; } else { say 2; give 1; say 3; } }',
                 [(1,), (1, 0, 1), (1, 0, 1, 1, 2)]),
                ('if a { while a { give 1; say 1; } say 2; } else { give 2; if a { say 3; } }',
                 [(0, 0, 0, 0, 1), (0, 1, 1)]),
                ('while 1 { give 1; give 2; } say 1;', [(0, 0, 1)])):
            with self.subTest(body=body):
                self.assertEqual(unreached(read('def f(a) { ' + body + ' }')[0][3]), ways)
        self.assertEqual(unreached(OUTER_STEPS), [])


class Paths(unittest.TestCase):

    def test_all_ways_as_the_test_goes_them(self):
        for rounds in range(4):
            for rows, _ in LOTS[:250]:
                try:
                    paths = go(rows, rounds)
                except TooMany:
                    continue
                found = all_paths(rows, rounds)
                self.assertEqual(sorted(found), sorted((tuple(marks_of(path)), gives(path)) for path in paths))
                self.assertIsInstance(found, list)
                self.assertTrue(tuples_throughout(tuple(found)))
                for row in rows:
                    self.assertEqual(sorted(step_paths(row, rounds)), sorted(all_paths((row,), rounds)))

    def test_by_hand(self):
        a, b = ('read', 'a'), ('set', 'b')
        for text, rounds, paths in (
                ('', 2, [((), False)]), ('b = a;', 0, [((a, b), False)]),
                ('while a { b = 1; }', 0, [((a,), False)]),
                ('while a { b = 1; }', 1, [((a,), False), ((a, b, a), False)]),
                ('while a { b = 1; }', 2, [((a,), False), ((a, b, a), False), ((a, b, a, b, a), False)]),
                ('if a { b = 1; }', 0, [((a, b), False), ((a,), False)]),
                ('if 1 { } else { b = 1; } say a;', 0, [((a,), False), ((b, a), False)]),
                # Two ways that read and set alike are two ways.
                ('if a { } else { }', 3, [((a,), False), ((a,), False)])):
            with self.subTest(text=text, rounds=rounds):
                self.assertEqual(all_paths(read(text), rounds), paths)
        body = read('def f(a) { while a { if a { give a; } b = 1; } give 2; }')[0][3]
        self.assertEqual(all_paths(body, 1), [((a,), True), ((a, a, a), True), ((a, a, b, a), True)])
        self.assertEqual(step_paths(('give', ('name', 'a')), 0), [((a,), True)])

    def test_rounds_that_are_too_few_or_too_many(self):
        for rounds in (-1, 4, 100, -7):
            for rows in ((), OUTER_STEPS):
                with self.subTest(rounds=rounds), self.assertRaises(BadSize):
                    all_paths(rows, rounds)
            for text in ('if 1 { }', 'while 1 { }'):
                with self.subTest(text=text), self.assertRaises(BadSize):
                    step_paths(read(text)[0], rounds)


class Scopes(unittest.TestCase):

    def test_scopes_that_are_not_there(self):
        for rows in ((), read('a = 1; def f() { }'), read('say f();')):
            for scope in ('a', 'g', '-', ' '):
                for deed in (unsure_reads, surely_set_behind, idle_sets):
                    with self.subTest(scope=scope, deed=deed), self.assertRaises(NoSuch):
                        deed(rows, scope)


if __name__ == '__main__':
    unittest.main()
