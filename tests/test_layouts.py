"""Point 6: pieces in one row and broken, all ways of them, their cost, and the first way of least cost."""

import itertools
import unittest

from helper import tuples_throughout
from neatwright.errors import BadLayout, BadSize
from neatwright.layouts import (best, best_way, check_best, cost, flat_text, group, groups_in, in_turn, laid, lay,
                                line, marked, nest, shifted, spread, text, ways)


def words(*parts):
    """Return the piece of words and pieces one behind the other."""
    return in_turn([text(part) if isinstance(part, str) else part for part in parts])


# Pieces of up to four groups, one in another and side by side.
ONE = group(words('ab', nest(2, words(line(), 'cde', line(''), 'f'))))
INNER = group(words('x(', nest(3, words(line(''), 'yy', line('; '), 'z')), line(''), ')'))
PIECES = (
    text('abc'), text(''), line(), line(''), words('a', line(), 'b'), in_turn(()), nest(3, words('a', line('-'), 'bc')),
    ONE, group(text('abcdef')), group(group(words('a', line(), 'b'))), nest(4, ONE), INNER,
    words(ONE, ' ', INNER), words(ONE, line(), INNER), group(words(ONE, line(), INNER)),
    group(words('say ', nest(4, words(line(), INNER, text(','), line(), INNER)))),
    group(nest(1, words(INNER, line(), group(words(ONE, line('')))))),
    words(ONE, INNER, ONE, INNER), group(words('a', line(), group(words('b', line(), group(words('c', line(), 'd')))))),
    group(words('p', line(), group(words('q', line(), group(words('r', line(), group(words('s', line(), 't')))))))),
    words(group(words('aaaa', line(), 'b')), group(words('c', line(), 'dddd')), group(words('e', line(), 'f'))),
    group(words(nest(2, group(words('aa', line(), 'b'))), nest(0, group(words('c', nest(5, line()), 'dd'))), 'eee')),
    words(group(words('a', line('----'), 'b')), group(line()), group(line(''))),
    group(words(line(), group(words('long word here', line(), 'x')), line(), 'y')),
)


def texts_of(piece, inward=0, flat=False):
    """Return the (way, text) of each way of a piece, by trying both for each group."""
    kind = piece[0]
    if kind == 'text':
        return [((), piece[1])]
    if kind == 'line':
        return [((), piece[1] if flat else '\n' + ' ' * inward)]
    if kind == 'nest':
        return texts_of(piece[2], inward + piece[1], flat)
    if kind == 'group':
        found = [((0,) + way, told) for way, told in texts_of(piece[1], inward, True)]
        if not flat:
            found += [((1,) + way, told) for way, told in texts_of(piece[1], inward, False)]
        return found
    found = []
    for lot in itertools.product(*[texts_of(one, inward, flat) for one in piece[1]]):
        found.append((sum([way for way, _ in lot], ()), ''.join(told for _, told in lot)))
    return found


def cost_of(told, width):
    rows = told.split('\n')
    return (sum(len(row[width:]) for row in rows), len(rows))


class Pieces(unittest.TestCase):

    def test_pieces_are_tuples(self):
        self.assertEqual(text('ab c'), ('text', 'ab c'))
        self.assertEqual(text(''), ('text', ''))
        self.assertEqual(line(), ('line', ' '))
        self.assertEqual(line(''), ('line', ''))
        self.assertEqual(in_turn([text('a'), line()]), ('row', (('text', 'a'), ('line', ' '))))
        self.assertEqual(in_turn(()), ('row', ()))
        self.assertEqual(nest(0, text('a')), ('nest', 0, ('text', 'a')))
        self.assertEqual(nest(3, line()), ('nest', 3, ('line', ' ')))
        self.assertEqual(group(text('a')), ('group', ('text', 'a')))
        for piece in PIECES:
            self.assertTrue(tuples_throughout(piece))

    def test_words_with_a_rows_end_are_refused(self):
        for word in ('\n', 'a\n', '\nb', 'a\nb'):
            with self.subTest(word=word), self.assertRaises(BadLayout):
                text(word)

    def test_counts_below_nought_are_refused(self):
        for count in (-1, -20):
            with self.assertRaises(BadSize):
                nest(count, text('a'))

    def test_groups_and_text_in_one_row(self):
        for piece in PIECES:
            with self.subTest(piece=piece):
                self.assertEqual(groups_in(piece), str(piece).count("'group'"))
                self.assertEqual(flat_text(piece), texts_of(piece, 0, True)[0][1])
                self.assertNotIn('\n', flat_text(piece))
        self.assertEqual((groups_in(PIECES[19]), flat_text(PIECES[19])), (4, 'p q r s t'))
        self.assertEqual((groups_in(INNER), flat_text(INNER)), (1, 'x(yy; z)'))


class Ways(unittest.TestCase):

    def test_all_ways_in_order(self):
        for piece in PIECES:
            with self.subTest(piece=piece):
                found = ways(piece)
                self.assertEqual(found, sorted(way for way, _ in texts_of(piece)))
                self.assertIsInstance(found, list)
                self.assertTrue(all(tuples_throughout(way) for way in found))
                self.assertEqual(ways(piece, False), found)
                self.assertEqual(ways(piece, True), [(0,) * groups_in(piece)])
        self.assertEqual(ways(text('a')), [()])
        self.assertEqual(ways(group(text('a'))), [(0,), (1,)])
        self.assertEqual(ways(words(ONE, INNER)), [(0, 0), (0, 1), (1, 0), (1, 1)])
        self.assertEqual(ways(group(words(ONE, INNER))), [(0, 0, 0), (1, 0, 0), (1, 0, 1), (1, 1, 0), (1, 1, 1)])

    def test_texts_by_each_way(self):
        for piece in PIECES:
            for way, told in texts_of(piece):
                with self.subTest(piece=piece, way=way):
                    self.assertEqual(laid(piece, way), told)
                    self.assertEqual(laid(piece, list(way)), told)
        self.assertEqual(laid(ONE, (0,)), 'ab cdef')
        self.assertEqual(laid(ONE, (1,)), 'ab\n  cde\n  f')
        self.assertEqual(laid(INNER, (1,)), 'x(\n   yy\n   z\n)')
        # Lines outside of all groups are ends, and nests add up.
        self.assertEqual(laid(nest(2, nest(3, words('a', line(), 'b'))), ()), 'a\n     b')
        self.assertEqual(laid(nest(4, ONE), (1,)), 'ab\n      cde\n      f')
        self.assertEqual(laid(group(words(ONE, line(), 'z')), (1, 0)), 'ab cdef\nz')
        self.assertEqual(laid(group(words(ONE, line(), 'z')), (1, 1)), 'ab\n  cde\n  f\nz')

    def test_ways_that_are_not_the_pieces(self):
        for piece in PIECES:
            there = [way for way, _ in texts_of(piece)]
            for count in range(6):
                for way in itertools.product((0, 1), repeat=count):
                    if way not in there:
                        with self.subTest(piece=piece, way=way), self.assertRaises(BadLayout):
                            laid(piece, way)
        for way in ((2,), (-1,), ('0',), (None,), ((),)):
            with self.subTest(way=way), self.assertRaises(BadLayout):
                laid(ONE, way)

    def test_laid_from_within(self):
        self.assertEqual(lay(ONE, 3, False, (1, 0, 1)), ('ab\n     cde\n     f', (0, 1)))
        self.assertEqual(lay(ONE, 3, False, (0, 1)), ('ab cdef', (1,)))
        self.assertEqual(lay(ONE, 3, True, (0,)), ('ab cdef', ()))
        self.assertEqual(lay(ONE, 3, True, (1,)), ('ab cdef', ()))
        self.assertEqual(lay(text('a'), 3, False, (1,)), ('a', (1,)))
        self.assertEqual(lay(line('-'), 3, False, ()), ('\n   ', ()))
        self.assertEqual(lay(line('-'), 3, True, (0,)), ('-', (0,)))
        self.assertEqual(lay(nest(2, line()), 1, False, (0,)), ('\n   ', (0,)))
        self.assertEqual(lay(words(ONE, INNER), 0, False, (0, 1, 0)), ('ab cdefx(\n   yy\n   z\n)', (0,)))
        self.assertEqual(lay(group(words(line(), INNER)), 2, False, (1, 1)), ('\n  x(\n     yy\n     z\n  )', ()))

    def test_many_groups_are_laid_at_once(self):
        many = in_turn([group(words('a', line(), 'b')) for _ in range(200)])
        self.assertEqual(laid(many, (0,) * 199 + (1,)), 'a b' * 199 + 'a\nb')
        told = best(many, 30)
        self.assertEqual(cost(told, 30), check_best(many, 30, told))
        deep = text('a')
        for _ in range(60):
            deep = group(words('(', nest(1, words(line(''), deep)), line(''), ')'))
        self.assertEqual(best(deep, 200), '(' * 60 + 'a' + ')' * 60)
        told = best(deep, 10)
        self.assertEqual(check_best(deep, 10, told), cost(told, 10))
        with self.assertRaises(BadLayout):
            check_best(deep, 10, best(deep, 200))


class Costs(unittest.TestCase):

    def test_cost(self):
        for told, width, found in (('', 0, (0, 1)), ('abc', 3, (0, 1)), ('abc', 2, (1, 1)), ('abc', 0, (3, 1)),
                                   ('a\nbcd\n', 2, (1, 3)), ('abcd\n\nabcde', 3, (3, 3)), ('    a', 2, (3, 1)),
                                   ('a\n b\n  c', 1, (3, 3)), ('\n', 0, (0, 2))):
            with self.subTest(told=told, width=width):
                self.assertEqual(cost(told, width), found)
        for width in (-1, -60):
            with self.assertRaises(BadSize):
                cost('a', width)

    def test_best_way_by_trying_all(self):
        ties = 0
        for piece in PIECES:
            lot = sorted(texts_of(piece))
            for start in (0, 1, 2, 5, 9, 30):
                for width in range(max(len(told) for _, told in lot) + 10):
                    costs = [cost_of(' ' * start + told, width) for _, told in lot]
                    ties += costs.count(min(costs)) > 1
                    first = lot[costs.index(min(costs))][0]
                    self.assertEqual(best_way(piece, width, start), first, (piece, width, start))
                    if start == 0:
                        self.assertEqual(best_way(piece, width), first)
                        self.assertEqual(best(piece, width), dict(lot)[first])
        self.assertGreater(ties, 100)

    def test_first_of_two_that_cost_the_same(self):
        # Each of the two may be broken, one must be: the one behind is, as its way is the first in order.
        piece = words(group(words('aa', line(), 'aa')), group(words('aa', line(), 'aa')))
        self.assertEqual(best_way(piece, 7), (0, 1))
        self.assertEqual(best_way(group(words('abc', line(''))), 0), (0,))
        self.assertEqual(best_way(piece, 100), (0, 0))

    def test_best_is_one_row_where_it_fits(self):
        self.assertEqual(best(INNER, 8), 'x(yy; z)')
        self.assertEqual(best(INNER, 7), 'x(\n   yy\n   z\n)')
        self.assertEqual(best_way(INNER, 9, 1), (0,))
        self.assertEqual(best_way(INNER, 8, 1), (1,))
        # The fewest signs past come ahead of the fewest rows.
        self.assertEqual(best(group(words('abc', line(), 'd')), 4), 'abc\nd')
        self.assertEqual(best(group(words('abc', nest(9, line()), 'd')), 4), 'abc d')

    def test_sizes_below_nought_are_refused(self):
        for width, start in ((-1, 0), (0, -1), (-1, -1), (5, -3)):
            with self.assertRaises(BadSize):
                best_way(ONE, width, start)
        with self.assertRaises(BadSize):
            best(ONE, -1)
        for told in ('ab cdef', 'no'):
            with self.assertRaises(BadSize):
                check_best(ONE, -1, told)

    def test_texts_checked(self):
        for piece in PIECES:
            lot = texts_of(piece)
            for width in (0, 1, 3, 5, 8, 12, 40):
                least = min(cost_of(told, width) for _, told in lot)
                for _, told in lot:
                    if cost_of(told, width) == least:
                        self.assertEqual(check_best(piece, width, told), least)
                        continue
                    with self.subTest(piece=piece, width=width, told=told), self.assertRaises(BadLayout):
                        check_best(piece, width, told)
                first, last = lot[0][1], lot[-1][1]
                for told in ('another', first + ' ', ' ' + first, first + '\n', first + 'x', last[:-1]):
                    if told not in [one for _, one in lot]:
                        with self.subTest(piece=piece, width=width, told=told), self.assertRaises(BadLayout):
                            check_best(piece, width, told)
        self.assertEqual(check_best(ONE, 4, 'ab\n  cde\n  f'), (1, 3))


class States(unittest.TestCase):

    def test_tables_are_not_changed(self):
        states = {0: (0, 1, ()), 4: (1, 2, (1,))}
        for found in (marked(states, (1,)), shifted(states, 2, 3), spread(words(ONE, INNER), 0, False, states, 4),
                      spread(in_turn(()), 0, False, states, 4), spread(line(), 3, True, states, 4)):
            self.assertIsInstance(found, dict)
            self.assertIsNot(found, states)
        self.assertEqual(states, {0: (0, 1, ()), 4: (1, 2, (1,))})

    def test_marked(self):
        self.assertEqual(marked({3: (2, 1, (0,)), 5: (0, 4, (1,))}, (1, 0)),
                         {3: (2, 1, (0, 1, 0)), 5: (0, 4, (1, 1, 0))})
        self.assertEqual(marked({3: (2, 1, ())}, [1]), {3: (2, 1, (1,))})
        self.assertEqual(marked({}, (1,)), {})

    def test_shifted(self):
        states = {0: (0, 1, ()), 3: (0, 2, (1,)), 9: (5, 1, (0,))}
        self.assertEqual(shifted(states, 3, 4), {3: (0, 1, ()), 6: (2, 2, (1,)), 12: (8, 1, (0,))})
        self.assertEqual(shifted(states, 0, 4), states)
        self.assertEqual(shifted({2: (0, 1, ())}, 2, 4), {4: (0, 1, ())})
        self.assertEqual(shifted({2: (0, 1, ())}, 3, 4), {5: (1, 1, ())})

    def test_spread(self):
        states = {0: (0, 1, (1,)), 5: (0, 1, (0,))}
        self.assertEqual(spread(text('abc'), 2, False, states, 6), {3: (0, 1, (1,)), 8: (2, 1, (0,))})
        # Behind a row's end all stand at one column: the least of them alone goes on.
        self.assertEqual(spread(line(), 2, False, states, 6), {2: (0, 2, (0,))})
        self.assertEqual(spread(line(), 8, False, states, 6), {8: (2, 2, (0,))})
        self.assertEqual(spread(line('--'), 2, True, states, 6), {2: (0, 1, (1,)), 7: (1, 1, (0,))})
        self.assertEqual(spread(nest(3, line()), 2, False, states, 6), {5: (0, 2, (0,))})
        self.assertEqual(spread(ONE, 1, False, {0: (0, 1, ())}, 5), {7: (2, 1, (0,)), 4: (1, 3, (1,))})
        self.assertEqual(spread(ONE, 1, True, {0: (0, 1, ())}, 5), {7: (2, 1, (0,))})
        self.assertEqual(spread(group(words(ONE, ONE)), 0, True, {0: (0, 1, ())}, 99), {14: (0, 1, (0, 0, 0))})

    def test_spread_as_all_ways(self):
        for piece in PIECES:
            for inward, width in ((0, 4), (3, 7), (5, 2), (0, 50)):
                table = {}
                for way, told in sorted(texts_of(piece, inward)):
                    rows = ('x' * 2 + told).split('\n')
                    here = (*cost_of('xx' + told, width), way)
                    column = len(rows[-1])
                    table[column] = min(here, table.get(column, here))
                self.assertEqual(spread(piece, inward, False, {2: (max(0, 2 - width), 1, ())}, width), table)


if __name__ == '__main__':
    unittest.main()
