"""Point 14: rows kept, left out and put in, the fewest of them; lots of changes; two changes put together."""

import itertools
import random
import unittest

from helper import tuples_throughout
from neatwright.diffs import (changes, common_table, diff, done, done_hunks, hunks, kept_by_both, kept_places, merged,
                              read_steps_told, told, undone)
from neatwright.errors import BadPaper, BadSize

# All rows of up to three of two words, and some of up to five of three.
SHORT = [rows for count in range(4) for rows in itertools.product('ab', repeat=count)]
CHANCE = random.Random(51)
LONG = [tuple(CHANCE.choice('abc') for _ in range(CHANCE.randrange(6))) for _ in range(160)]
PAIRS = [(one, other) for one in SHORT for other in SHORT] + list(zip(LONG[::2], LONG[1::2]))
TRIPLES = [tuple(tuple(CHANCE.choice('abc') for _ in range(CHANCE.randrange(6))) for _ in range(3))
           for _ in range(400)]


def kept_lots(one, other):
    """Return all ways of keeping rows: a row of (place, place) pairs each."""
    found = []
    for count in range(min(len(one), len(other)) + 1):
        for mine in itertools.combinations(range(len(one)), count):
            for others in itertools.combinations(range(len(other)), count):
                if all(one[place] == other[behind] for place, behind in zip(mine, others)):
                    found.append(list(zip(mine, others)))
    return found


def in_common(one, other):
    return max(len(kept) for kept in kept_lots(one, other))


def scripts(one, other):
    """Return all rows of steps from rows to others."""
    if one == () and other == ():
        return [()]
    found = []
    if one != () and other != () and one[0] == other[0]:
        found += [((' ', one[0]), *rest) for rest in scripts(one[1:], other[1:])]
    if one != ():
        found += [(('-', one[0]), *rest) for rest in scripts(one[1:], other)]
    if other != ():
        found += [(('+', other[0]), *rest) for rest in scripts(one, other[1:])]
    return found


def count_of(steps):
    return len([sign for sign, _ in steps if sign != ' '])


class Diffs(unittest.TestCase):

    def test_tables_by_trying_all_kept_rows(self):
        for one, other in PAIRS[::3]:
            table = common_table(one, other)
            self.assertEqual(len(table), (len(one) + 1) * (len(other) + 1))
            for (place, behind), count in table.items():
                self.assertEqual(count, in_common(one[place:], other[behind:]))
        self.assertEqual(common_table((), ()), {(0, 0): 0})

    def test_the_fewest_steps_left_out_first(self):
        for one, other in PAIRS:
            found = diff(one, other)
            self.assertEqual(changes(found), len(one) + len(other) - 2 * in_common(one, other))
            self.assertEqual(diff(list(one), list(other)), found)
            self.assertTrue(tuples_throughout(found))
            if len(one) + len(other) < 8:
                every = scripts(one, other)
                fewest = min(map(count_of, every))
                best = [steps for steps in every if count_of(steps) == fewest]
                # Alike rows are kept at once, and one is left out ahead of another put in.
                self.assertEqual(found, min(best, key=lambda steps: [' -+'.index(sign) for sign, _ in steps]))

    def test_by_hand(self):
        for one, other, signs in (('', '', ''), ('a', '', '-'), ('', 'ab', '++'), ('ab', 'ab', '  '), ('a', 'b', '-+'),
                                  ('ab', 'ba', '- +'), ('abc', 'axc', ' -+ '), ('aab', 'ab', ' - '),
                                  ('xay', 'yax', '-- ++'), ('yb', 'ab', '-+ ')):
            with self.subTest(one=one, other=other):
                self.assertEqual(''.join(sign for sign, _ in diff(tuple(one), tuple(other))), signs)
        # Rows may be texts of any length, bare ones too.
        self.assertEqual(diff(('', 'long row'), ('long row', '')), (('-', ''), (' ', 'long row'), ('+', '')))

    def test_done_undone_told_and_read_again(self):
        for one, other in PAIRS:
            steps = diff(one, other)
            self.assertEqual(done(one, steps), other)
            self.assertEqual(done(list(one), [list(step) for step in steps]), other)
            self.assertEqual(done(other, undone(steps)), one)
            self.assertEqual(undone(undone(steps)), steps)
            self.assertEqual(changes(undone(steps)), changes(steps))
            rows = told(steps)
            self.assertEqual(rows, tuple(sign + row for sign, row in steps))
            self.assertEqual(read_steps_told(rows), steps)
            for found in (done(one, steps), undone(steps), rows, read_steps_told(list(rows))):
                self.assertTrue(tuples_throughout(found))
        self.assertEqual(undone(((' ', 'a'), ('-', 'b'), ('+', 'c'))), ((' ', 'a'), ('+', 'b'), ('-', 'c')))
        self.assertEqual(read_steps_told(('-', '+ a', '  ')), (('-', ''), ('+', ' a'), (' ', ' ')))

    def test_steps_that_are_refused(self):
        rows = ('a', 'b')
        for steps in (
                # Another sign.
                (('*', 'a'), (' ', 'b')), (('', 'a'), (' ', 'b')), ((' -', 'a'), (' ', 'b')), (('-+', 'a'),),
                ((' ', 'a'), (' ', 'b'), ('?', 'c')),
                # Another row, or one past the end.
                ((' ', 'b'), (' ', 'a')), (('-', 'b'), (' ', 'b')), ((' ', 'a'), ('-', 'c')),
                ((' ', 'a'), (' ', 'b'), (' ', 'b')), ((' ', 'a'), (' ', 'b'), ('-', '')),
                # Rows are left.
                (), ((' ', 'a'),), (('+', 'c'), ('-', 'a')), (('+', 'a'), ('+', 'b'))):
            with self.subTest(steps=steps), self.assertRaises(BadPaper):
                done(rows, steps)
        for steps in (((' ', ''),), (('-', 'a'),)):
            with self.subTest(steps=steps), self.assertRaises(BadPaper):
                done((), steps)
        for told_rows in (('',), (' a', ''), ('a',), ('*a',), (' a', '-b', '\n'), ('=',)):
            with self.subTest(rows=told_rows), self.assertRaises(BadPaper):
                read_steps_told(told_rows)
        self.assertEqual(read_steps_told(()), ())


def lots_by_hand(steps, near):
    """Return the lots of changes, by the kept rows between them: more than twice as many as near part them."""
    changed = [number for number, (sign, _) in enumerate(steps) if sign != ' ']
    spans = []
    for number in changed:
        if spans != [] and number - spans[-1][1] - 1 <= 2 * near:
            spans[-1][1] = number
        else:
            spans.append([number, number])
    found = []
    for first, last in spans:
        first, last = max(0, first - near), min(len(steps), last + near + 1)
        ahead = [sign for sign, _ in steps[:first]]
        found.append((first - ahead.count('+'), first - ahead.count('-'), tuple(steps[first:last])))
    return tuple(found)


class Hunks(unittest.TestCase):

    def test_lots_with_kept_rows_about_them(self):
        pairs = PAIRS + [(tuple(one * 3), tuple(other * 3)) for one, other in PAIRS[-60:]]
        several = 0
        for one, other in pairs:
            steps = diff(one, other)
            for near in (0, 1, 2, 9):
                found = hunks(steps, near)
                self.assertEqual(found, lots_by_hand(steps, near))
                self.assertEqual(done_hunks(one, found), other)
                self.assertTrue(tuples_throughout(found))
                several += len(found) > 1
        self.assertGreater(several, 100)

    def test_by_hand(self):
        steps = diff(tuple('abcdefgh'), tuple('xbcdeghi'))
        self.assertEqual(told(steps), ('-a', '+x', ' b', ' c', ' d', ' e', '-f', ' g', ' h', '+i'))
        self.assertEqual([(start, other, ''.join(told(lot))) for start, other, lot in hunks(steps, 0)],
                         [(0, 0, '-a+x'), (5, 5, '-f'), (8, 7, '+i')])
        # Two kept rows between two lots, one about each: they meet.
        self.assertEqual([(start, other, ''.join(told(lot))) for start, other, lot in hunks(steps, 1)],
                         [(0, 0, '-a+x b'), (4, 4, ' e-f g h+i')])
        self.assertEqual([(start, other, len(lot)) for start, other, lot in hunks(steps, 2)], [(0, 0, 10)])
        self.assertEqual(hunks(diff('abc', 'abc'), 2), ())
        self.assertEqual(hunks((), 0), ())
        self.assertEqual(done_hunks(('a', 'b'), ()), ('a', 'b'))
        self.assertEqual(done_hunks([], [[0, 0, [['+', 'a']]]]), ('a',))

    def test_fewer_kept_rows_than_none(self):
        for near in (-1, -9):
            for steps in ((), diff('ab', 'bc')):
                with self.subTest(near=near), self.assertRaises(BadSize):
                    hunks(steps, near)

    def test_lots_that_do_not_fit(self):
        rows = tuple('abcde')
        one, other = (1, 1, (('-', 'b'), ('+', 'x'), ('+', 'y'))), (3, 4, ((' ', 'd'), ('-', 'e')))
        self.assertEqual(done_hunks(rows, (one, other)), tuple('axycd'))
        for lots in (
                # At another place: within what is done, past the end, or another one of the others.
                (other, one), (one, one), ((6, 6, (('+', 'x'),)),), ((1, 0, one[2]),), ((1, 2, one[2]),),
                (one, (3, 3, other[2])), (one, (3, 5, other[2])), ((-1, -1, ()),),
                # Steps that keep or leave out another row, or one past the end, or have another sign.
                ((2, 2, one[2]),), ((0, 0, (('-', 'b'),)),), ((4, 4, (('-', 'e'), ('-', 'f'))),),
                ((5, 5, (('-', 'e'),)),), ((1, 1, (('*', 'b'),)),), ((1, 1, (('', ''),)),)):
            with self.subTest(lots=lots), self.assertRaises(BadPaper):
                done_hunks(rows, lots)
        # The end itself is a place to put something in.
        self.assertEqual(done_hunks(rows, ((5, 5, (('+', 'f'),)),)), tuple('abcdef'))


def parts_of(base, one, other):
    """Return the (base, one, other) parts between rows that both keep, and those rows, by the package's diff."""
    kept = []
    for changed in (one, other):
        places, place, behind = {}, 0, 0
        for sign, _ in diff(base, changed):
            if sign == ' ':
                places[place] = behind
            place, behind = place + (sign != '+'), behind + (sign != '-')
        kept.append(places)
    found, last = [], (0, 0, 0)
    for place in [place for place in range(len(base)) if place in kept[0] and place in kept[1]] + [None]:
        ends = (len(base), len(one), len(other)) if place is None else (place, kept[0][place], kept[1][place])
        found.append((base[last[0]:ends[0]], one[last[1]:ends[1]], other[last[2]:ends[2]],
                      () if place is None else base[place:place + 1]))
        last = tuple(end + 1 for end in ends)
    return found


class Merged(unittest.TestCase):

    def test_by_hand(self):
        for base, one, other, rows, quarrels in (
                ('', '', '', '', ()), ('abc', 'abc', 'abc', 'abc', ()), ('abc', 'axc', 'abc', 'axc', ()),
                ('abc', 'abc', 'axc', 'axc', ()), ('abc', 'axc', 'axc', 'axc', ()), ('abc', 'axc', 'ayc', 'axyc', (1,)),
                ('abc', 'ac', 'abc', 'ac', ()), ('abc', 'ac', 'ac', 'ac', ()), ('abc', 'ac', 'axc', 'axc', (1,)),
                ('abc', 'xabc', 'abcy', 'xabcy', ()), ('abc', 'xabc', 'yabc', 'xyabc', (0,)),
                ('abc', 'abcx', 'abcx', 'abcx', ()), ('abc', 'xbz', 'ybw', 'xybzw', (0, 3)), ('', 'a', 'b', 'ab', (0,)),
                ('', 'a', 'a', 'a', ()), ('ab', '', 'ab', '', ()), ('ab', '', 'xb', 'xb', (0,)),
                ('abcde', 'aXcde', 'abcdY', 'aXcdY', ())):
            with self.subTest(base=base, one=one, other=other):
                found = merged(tuple(base), tuple(one), tuple(other))
                self.assertEqual(found, (tuple(rows), quarrels))
                self.assertEqual(merged(list(base), list(one), list(other)), found)
                self.assertTrue(tuples_throughout(found))

    def test_made_changes(self):
        quarrels = 0
        for base, one, other in TRIPLES:
            rows, places = merged(base, one, other)
            mine, begun = [], []
            for part, changed, others, kept in parts_of(base, one, other):
                if changed == others or others == part:
                    mine += changed
                elif changed == part:
                    mine += others
                else:
                    begun.append(len(mine))
                    mine += changed + others
                mine += kept
            self.assertEqual((rows, places), (tuple(mine), tuple(begun)))
            self.assertEqual(merged(base, one, base), (one, ()))
            self.assertEqual(merged(base, base, other), (other, ()))
            self.assertEqual(merged(base, one, one), (one, ()))
            quarrels += len(places)
        self.assertGreater(quarrels, 100)

    def test_kept_rows(self):
        for base, one, other in TRIPLES:
            mine, others = kept_places(base, one), kept_places(base, other)
            self.assertEqual(len(mine), in_common(base, one))
            for place, behind in mine.items():
                self.assertEqual(base[place], one[behind])
            self.assertEqual(list(mine), sorted(mine))
            self.assertEqual(list(mine.values()), sorted(mine.values()))
            found = kept_by_both(base, one, other)
            self.assertEqual(found, [(place, mine[place], others[place]) for place in sorted(set(mine) & set(others))])
        self.assertEqual(kept_places(('a', 'b', 'c'), ('x', 'c', 'y')), {2: 1})
        self.assertEqual(kept_by_both(('a', 'b', 'c'), ('x', 'b', 'c'), ('c',)), [(2, 2, 0)])


if __name__ == '__main__':
    unittest.main()
