"""Point 17: depths, branches, weights, kinds, deeds, widths and what stands twice, by going through programs."""

import unittest

from helper import OUTER_STEPS, PROGRAM, tuples_throughout
from making import programs
from neatwright.errors import BadSize, NoSuch
from neatwright.measures import (all_lots, branches, deeds, depth, kinds, row_widths, runs_twice, scope_measures, twice,
                                 weight, widest)
from neatwright.reads import read, told_plain, told_worth
from neatwright.scopes import scope_rows, scopes_of
from neatwright.shapes import neat_rows
from test_folds import with_gives

MADE = programs(50, 81) + [with_gives(rows, seed) for seed, rows in enumerate(programs(20, 82))] + [PROGRAM, OUTER_STEPS]
KINDS = ('set', 'say', 'give', 'if', 'while', 'def')


def walk(rows, deep=0):
    """Return (steps, worths, the depth of each block) of rows, as they stand, by looking at every tuple."""
    steps, worths, depths = [], [], [deep]
    for row in rows:
        steps.append(row)
        if row[0] != 'def':
            look(row[1] if row[0] in ('if', 'while') else row[-1], worths)
        lots = {'if': row[2:], 'while': row[2:], 'def': row[3:]}.get(row[0], ())
        for lot in lots:
            more = walk(lot, deep + 1)
            steps, worths, depths = steps + more[0], worths + more[1], depths + more[2]
    return steps, worths, depths


def look(tree, found):
    found.append(tree)
    for part in tree[2] if tree[0] == 'call' else tree:
        if isinstance(part, tuple):
            look(part, found)


def size_of(tree):
    found = []
    look(tree, found)
    return len(found)


class Measures(unittest.TestCase):

    def test_by_hand(self):
        for text, measures in (
                ('', (0, 1, 0)), ('say 1;', (0, 1, 2)), ('a = 1 + -b; say f(a, 2);', (0, 1, 9)), ('if 1 { }', (1, 2, 2)),
                ('while 1 { if a { say 1; } else { } } say 2;', (2, 3, 8)), ('def f() { }', (1, 1, 1)),
                ('def f(x, y) { while x { give y; } }', (2, 2, 5)), ('if a { } else if b { } else if c { }', (3, 4, 6)),
                ('if 1 { } if 2 { if 3 { } } if 4 { }', (2, 5, 8))):
            with self.subTest(text=text):
                rows = read(text)
                self.assertEqual((depth(rows), branches(rows), weight(rows)), measures)
                self.assertEqual((depth(list(rows)), branches(list(rows)), weight(list(rows))), measures)

    def test_made_programs(self):
        for rows in MADE:
            steps, worths, depths = walk(rows)
            self.assertEqual(depth(rows), max(depths))
            self.assertEqual(weight(rows), len(steps) + len(worths))
            words = [row[0] for row in steps]
            self.assertEqual(branches(rows), 1 + words.count('if') + words.count('while'))
            self.assertEqual(list(kinds(rows).items()), [(kind, words.count(kind)) for kind in sorted(KINDS)
                                                         if kind in words])
            done = [one[1] for one in worths if one[0] == 'op']
            self.assertEqual(list(deeds(rows).items()), [(deed, done.count(deed)) for deed in sorted(set(done))])
            self.assertEqual(widest(rows), max(map(size_of, worths)))

    def test_tables_in_order(self):
        rows = read('while 1 == 2 { say 1 + 2 * 3 - 4; } a = 1 < 2; b = -1 + 2; def f() { give 1; } if a { }')
        self.assertEqual(list(kinds(rows).items()), [('def', 1), ('give', 1), ('if', 1), ('say', 1), ('set', 2),
                                                     ('while', 1)])
        self.assertEqual(list(deeds(rows).items()), [('*', 1), ('+', 2), ('-', 1), ('<', 1), ('==', 1)])
        self.assertEqual((kinds(()), deeds(()), deeds(read('say -a;')), widest(())), ({}, {}, {}, 0))
        self.assertEqual((widest(read('say 1; if a + b { say 1 * 2 - -3; }')), widest(read('def f() { }'))), (6, 0))

    def test_scopes(self):
        rows = read('def f(x) { if x { say x; } give 1; } a = 1; while a { say a + 1; } def g() { }')
        self.assertEqual([scope_measures(rows, scope) for scope in scopes_of(rows)],
                         [(3, 1, 2, 8), (3, 1, 2, 6), (0, 0, 1, 0)])
        for made in MADE:
            for scope in scopes_of(made):
                steps = scope_rows(made, scope)
                found = walk(steps)
                self.assertEqual(scope_measures(made, scope), (len(found[0]), depth(steps), branches(steps),
                                                               len(found[0]) + len(found[1])))
        for scope in ('a', 'none', '-'):
            with self.subTest(scope=scope), self.assertRaises(NoSuch):
                scope_measures(rows, scope)


class Twice(unittest.TestCase):

    def test_by_hand(self):
        rows = read('a = b + 1; say (b + 1) * c + (b + 1); if c { say -c; } while -c { } a = 1;')
        for least, found in ((1, (('b + 1', 3), ('b', 3), ('1', 4), ('c', 4), ('-c', 2))), (2, (('b + 1', 3), ('-c', 2))),
                             (3, (('b + 1', 3),)), (4, ())):
            with self.subTest(least=least):
                self.assertEqual(tuple((told_worth(tree), count) for tree, count in twice(rows, least)), found)
        self.assertEqual(twice((), 1), ())

    def test_made_programs(self):
        some = 0
        for rows in MADE:
            worths = walk(rows)[1]
            for least in (1, 2, 3, 5):
                mine = []
                for tree in worths:
                    if size_of(tree) >= least and worths.count(tree) > 1 and tree not in [one[0] for one in mine]:
                        mine.append((tree, worths.count(tree)))
                found = twice(list(rows), least)
                self.assertEqual(found, tuple(mine))
                self.assertTrue(tuples_throughout(found))
                some += len(found) if least > 1 else 0
        self.assertGreater(some, 50)

    def test_long_chains(self):
        chain = 'a' + ' + a' * 300
        found = twice(read(f'say {chain}; b = {chain};'), 600)
        self.assertEqual([(told_worth(tree), count) for tree, count in found], [(chain, 2)])

    def test_rows_of_steps_by_hand(self):
        rows = read('a = 1; say a; if a { a = 1; say a; a = 1; say a; } while b { say a; } def f() { say a; if 1 { } '
                    'a = 1; }')
        for count, found in ((1, ('a = 1;', 'say a;')), (2, ('a = 1; say a;',)), (3, ()), (9, ())):
            with self.subTest(count=count):
                self.assertEqual(tuple(told_plain(steps) for steps in runs_twice(rows, count)), found)
        # They may stand one over another.
        self.assertEqual(runs_twice(read('say 1; say 1; say 1;'), 2), (read('say 1; say 1;'),))
        self.assertEqual(runs_twice((), 1), ())

    def test_rows_of_made_programs(self):
        some = 0
        for rows in MADE:
            lots = lots_of(rows)
            found = all_lots(list(rows))
            self.assertEqual(found, lots)
            self.assertIsInstance(found, list)
            self.assertTrue(tuples_throughout(tuple(found)))
            for count in (1, 2, 3):
                runs = [lot[start:start + count] for lot in lots for start in range(len(lot) - count + 1)]
                mine = []
                for steps in runs:
                    if runs.count(steps) > 1 and steps not in mine:
                        mine.append(steps)
                self.assertEqual(runs_twice(list(rows), count), tuple(mine))
                self.assertTrue(tuples_throughout(runs_twice(rows, count)))
                some += len(mine)
        self.assertGreater(some, 20)

    def test_lots_by_hand(self):
        rows = read('if a { say 1; while b { say 2; } } say 3; def f() { say 4; }')
        self.assertEqual([told_plain(lot) for lot in all_lots(rows)],
                         [told_plain(rows), 'say 1; while b { say 2; }', 'say 2;', '', 'say 4;'])
        self.assertEqual(all_lots(()), [()])

    def test_counts_below_one(self):
        for count in (0, -1, -9):
            for rows in ((), MADE[0]):
                for deed in (twice, runs_twice):
                    with self.subTest(count=count, deed=deed), self.assertRaises(BadSize):
                        deed(rows, count)


def lots_of(rows):
    found = [tuple(rows)]
    for row in rows:
        for lot in {'if': row[2:], 'while': row[2:], 'def': row[3:]}.get(row[0], ()):
            found += lots_of(lot)
    return found


class Widths(unittest.TestCase):

    def test_rows_and_the_widest(self):
        for text, found in (('', (0, 0)), ('\n', (1, 0)), ('abc', (1, 3)), ('abc\n', (1, 3)), ('a\nbcd', (2, 3)),
                            ('a\nbcd\n', (2, 3)), ('\n\n', (2, 0)), ('\nab', (2, 2)), ('ab\n\n', (2, 2)), (' a ', (1, 3)),
                            ('ab\n\ncdefg\nh', (4, 5))):
            with self.subTest(text=text):
                self.assertEqual(row_widths(text), found)
        for rows in MADE:
            text = neat_rows(rows)
            lines = text.splitlines()
            self.assertEqual(row_widths(text), (len(lines), max(map(len, lines))))
            self.assertEqual(row_widths(text[:-1]), row_widths(text))


if __name__ == '__main__':
    unittest.main()
