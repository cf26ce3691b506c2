"""Point 15: edits done at once, undone, put together, and places followed through them."""

import itertools
import random
import unittest

from helper import tuples_throughout
from making import programs
from neatwright.edits import (applied, backward, behind_each_other, both, check_edits, place_behind, size_behind,
                              smallest, word_edits)
from neatwright.errors import BadChange
from neatwright.reads import told_plain
from neatwright.shapes import neat, neat_rows
from neatwright.signs import cut, joined, words_of

CHANCE = random.Random(61)
TEXTS = ['', 'a', 'ab', 'aab', 'abcd', 'abcdefgh']
SHORT = [''.join(signs) for count in range(5) for signs in itertools.product('ab', repeat=count)]


def is_lot(text, edits):
    """Tell whether edits are a lot, by holding each against each."""
    if not all(0 <= start <= end <= len(text) for start, end, _ in edits):
        return False
    for one, other in itertools.combinations(edits, 2):
        if one[0] == other[0] or max(one[0], other[0]) < min(one[1], other[1]):
            return False
        # One that is bare stands over another if it is within it.
        if any(outer[0] < inner[0] < outer[1] for outer, inner in ((one, other), (other, one))):
            return False
    return True


def lots_for(text):
    """Return lots of edits of a text: all of up to two of short ones, and made ones of up to four."""
    spans = [(start, end) for start in range(len(text) + 1) for end in range(start, len(text) + 1)]
    words = ('', 'x', 'yz')
    every = [(start, end, word) for start, end in spans for word in words]
    lots = [()] + [(edit,) for edit in every]
    if len(text) < 4:
        lots += list(itertools.permutations(every, 2))
    for _ in range(150):
        lots.append(tuple(CHANCE.choice(every) for _ in range(CHANCE.randrange(2, 5))))
    return lots


GOOD = [(text, lot) for text in TEXTS for lot in lots_for(text) if is_lot(text, lot)]
BAD = [(text, lot) for text in TEXTS for lot in lots_for(text) if not is_lot(text, lot)]


def cut_and_put(text, edits):
    """Return a text with edits done, the last ones first, so that none moves another's places."""
    found = text
    for start, end, word in sorted(edits)[::-1]:
        found = found[:start] + word + found[end:]
    return found


def followed(text, edits, place):
    """Return where a place comes to, by a mark for each sign of a text."""
    for start, end, word in edits:
        if start < place < end:
            return followed(text, edits, start) + len(word)
    return len(cut_and_put(text[:place], [edit for edit in edits if edit[0] < place or edit[:2] == (place, place)]))


class Edits(unittest.TestCase):

    def test_there_are_enough(self):
        self.assertGreater(len(GOOD), 1000)
        self.assertGreater(len(BAD), 1000)

    def test_in_order(self):
        for text, lot in GOOD:
            found = check_edits(text, lot)
            self.assertEqual(found, tuple(sorted(lot)))
            self.assertEqual(check_edits(text, [list(edit) for edit in lot]), found)
            self.assertTrue(tuples_throughout(found))
        self.assertEqual(check_edits('abc', ((2, 2, 'y'), (0, 2, 'x'))), ((0, 2, 'x'), (2, 2, 'y')))

    def test_done_all_at_once(self):
        for text, lot in GOOD:
            found = applied(text, lot)
            self.assertEqual(found, cut_and_put(text, lot))
            self.assertEqual(size_behind(text, lot), len(found))
        for text, lot, found in (('', (), ''), ('', ((0, 0, 'x'),), 'x'), ('abc', ((0, 3, ''),), ''),
                                 ('abc', ((1, 1, 'x'), (0, 1, '')), 'xbc'), ('abc', ((1, 2, 'xx'), (2, 3, 'y')), 'axxy'),
                                 ('abc', ((3, 3, '!'), (2, 3, '?'), (0, 0, '>')), '>ab?!')):
            self.assertEqual(applied(text, lot), found)

    def test_undone_they_give_the_text_back(self):
        for text, lot in GOOD:
            behind = applied(text, lot)
            found = backward(text, lot)
            self.assertEqual(applied(behind, found), text)
            self.assertTrue(is_lot(behind, found))
            self.assertTrue(tuples_throughout(found))
            for one, other in zip(found, found[1:]):
                self.assertLess(one[1], other[0])
            self.assertEqual(applied(text, backward(behind, found)), behind)
        self.assertEqual(backward('abcdef', ((1, 2, 'xy'), (4, 4, 'z'))), ((1, 3, 'b'), (5, 6, '')))
        # Those that meet are put together, as two that are undone would begin at one place.
        self.assertEqual(backward('abcd', ((0, 2, ''), (2, 3, 'y'))), ((0, 1, 'abc'),))
        self.assertEqual(backward('abcd', ((1, 2, 'x'), (2, 2, 'y'), (3, 4, 'z'))), ((1, 3, 'b'), (4, 5, 'd')))
        self.assertEqual(backward('ab', ()), ())

    def test_places_followed(self):
        for text, lot in GOOD:
            for place in range(len(text) + 1):
                self.assertEqual(place_behind(text, lot, place), followed(text, lot, place), (text, lot, place))
        lot = ((1, 3, 'xyz'), (4, 4, '!'), (5, 6, ''))
        self.assertEqual(applied('abcdefg', lot), 'axyzd!eg')
        self.assertEqual([place_behind('abcdefg', lot, place) for place in range(8)], [0, 1, 4, 4, 6, 7, 7, 8])
        self.assertEqual(place_behind('', ((0, 0, 'ab'),), 0), 2)
        self.assertEqual([place_behind('ab', ((0, 1, 'xx'), (1, 1, 'y')), place) for place in (0, 1, 2)], [0, 3, 4])
        for text in ('', 'abc'):
            for place in (-1, len(text) + 1, 99):
                with self.subTest(text=text, place=place), self.assertRaises(BadChange):
                    place_behind(text, (), place)

    def test_lots_that_are_refused(self):
        for text, lot in BAD:
            for deed in (check_edits, applied, backward, size_behind):
                with self.assertRaises(BadChange):
                    deed(text, lot)
            with self.assertRaises(BadChange):
                place_behind(text, lot, 0)
        for text, lot in (('abc', ((2, 4, ''),)), ('abc', ((-1, 1, ''),)), ('abc', ((2, 1, ''),)), ('', ((0, 1, ''),)),
                          ('abc', ((4, 4, 'x'),)), ('abc', ((0, 2, 'x'), (1, 3, 'y'))), ('abc', ((0, 3, ''), (1, 1, 'x'))),
                          ('abc', ((1, 1, 'x'), (1, 1, 'y'))), ('abc', ((1, 1, 'x'), (1, 2, 'y'))),
                          ('abc', ((0, 1, 'x'), (0, 1, 'x')))):
            with self.subTest(text=text, lot=lot), self.assertRaises(BadChange):
                check_edits(text, lot)


class Smallest(unittest.TestCase):

    def test_by_trying(self):
        for one in SHORT:
            for other in SHORT:
                found = smallest(one, other)
                self.assertTrue(tuples_throughout(found))
                self.assertEqual(applied(one, found), other)
                if one == other:
                    self.assertEqual(found, ())
                    continue
                # All edits that do it: the one that begins last, and of those the one that ends first.
                every = [(start, end, other[start:len(other) - (len(one) - end)])
                         for start in range(len(one) + 1) for end in range(start, len(one) + 1)
                         if start <= len(other) - (len(one) - end)]
                every = [edit for edit in every if applied(one, (edit,)) == other]
                best = max(every, key=lambda edit: (edit[0], -edit[1]))
                self.assertEqual(found, (best,))

    def test_by_hand(self):
        for one, other, edits in (('', '', ()), ('abc', 'abc', ()), ('abc', 'axc', ((1, 2, 'x'),)),
                                  ('', 'ab', ((0, 0, 'ab'),)), ('ab', '', ((0, 2, ''),)), ('aa', 'aaa', ((2, 2, 'a'),)),
                                  ('aba', 'a', ((1, 3, ''),)), ('abab', 'ab', ((2, 4, ''),))):
            self.assertEqual(smallest(one, other), edits)

    def test_one_lot_behind_another(self):
        for text, lot in GOOD[::7]:
            behind = applied(text, lot)
            second = ((0, len(behind) // 2, 'q'), (len(behind), len(behind), 'r'))
            if not is_lot(behind, second):
                continue
            found = behind_each_other(text, lot, second)
            self.assertEqual(applied(text, found), applied(behind, second))
            self.assertEqual(found, smallest(text, applied(behind, second)))
            self.assertTrue(tuples_throughout(found))
        self.assertEqual(behind_each_other('abcd', ((0, 1, ''),), ((1, 2, 'x'),)), ((0, 3, 'bx'),))
        self.assertEqual(behind_each_other('ab', ((0, 1, 'x'),), ((0, 1, 'a'),)), ())
        for one, other in ((((0, 9, ''),), ()), ((), ((0, 9, ''),)), (((0, 2, ''),), ((1, 1, 'x'),)),
                           (((0, 1, 'x'), (0, 2, 'y')), ())):
            with self.subTest(one=one, other=other), self.assertRaises(BadChange):
                behind_each_other('ab', one, other)


class Both(unittest.TestCase):

    def test_two_lots_together(self):
        fitting = 0
        for text in TEXTS:
            lots = [lot for other, lot in GOOD if other == text]
            for _ in range(200):
                one, other = CHANCE.choice(lots), CHANCE.choice(lots)
                together = tuple(sorted(set(one + other)))
                if is_lot(text, together):
                    found = both(text, one, other)
                    self.assertEqual(found, together)
                    self.assertEqual(both(text, list(other), list(one)), found)
                    self.assertTrue(tuples_throughout(found))
                    fitting += len(found) > max(len(one), len(other))
                else:
                    with self.assertRaises(BadChange):
                        both(text, one, other)
        self.assertGreater(fitting, 50)

    def test_by_hand(self):
        self.assertEqual(both('abc', ((0, 1, 'x'),), ((1, 1, 'y'), (0, 1, 'x'))), ((0, 1, 'x'), (1, 1, 'y')))
        self.assertEqual(both('abc', (), ()), ())
        for one, other in ((((0, 1, 'x'),), ((0, 1, 'y'),)), (((0, 2, ''),), ((1, 3, ''),)), (((1, 1, 'x'),), ((1, 2, ''),)),
                           (((0, 4, ''),), ()), ((), ((0, 4, ''),)), (((0, 3, ''),), ((1, 1, 'x'),)),
                           (((0, 1, 'x'), (0, 1, 'x')), ()), ((), ((0, 1, 'x'), (0, 1, 'x')))):
            with self.subTest(one=one, other=other), self.assertRaises(BadChange):
                both('abc', one, other)


class Words(unittest.TestCase):

    def test_piece_by_piece(self):
        for old, new, edits in (
                ('a = 1;', 'b = 20;', ((0, 1, 'b'), (4, 5, '20'))), ('a = 1;', 'a = 1;', ()),
                ('a=1;', 'b=2;', ((0, 1, 'b'), (2, 3, '2'))), ('', '', ()),
                ('say a; # one', 'say b;\n# two', ((4, 5, 'b'), (6, 7, '\n'), (7, 12, '# two'))),
                ('a+b', 'a-c', ((1, 2, '-'), (2, 3, 'c'))),
                # Another count of pieces: one edit.
                ('a = 1;', 'a =1;', ((3, 4, ''),)), ('', 'a', ((0, 0, 'a'),)), ('say a;', 'say a; b = 1;',
                                                                              ((6, 6, ' b = 1;'),))):
            with self.subTest(old=old, new=new):
                found = word_edits(old, new, cut)
                self.assertEqual(found, edits)
                self.assertEqual(applied(old, found), new)
                self.assertTrue(tuples_throughout(found))
        self.assertEqual(word_edits('ab\ncd\nef', 'ab\nxy\nef!', lambda text: text.split('\n')),
                         ((3, 5, 'xy'), (6, 8, 'ef!')))
        self.assertEqual(word_edits('abc', 'xbz', list), ((0, 1, 'x'), (2, 3, 'z')))
        self.assertEqual(word_edits('aba', 'xby', list), ((0, 1, 'x'), (2, 3, 'y')))

    def test_made_texts(self):
        by_pieces = 0
        texts = [told_plain(rows)[:200] for rows in programs(25, 62)] + [neat_rows(rows)[:200] for rows in programs(25, 63)]
        for text in texts:
            pieces = cut(text)
            for _ in range(4):
                new = ''.join('q' if piece[0] == 'name' and CHANCE.randrange(3) == 0 else piece[1] for piece in pieces)
                found = word_edits(text, new, cut)
                pairs = zip(pieces, cut(new))
                self.assertEqual(found, tuple((place, place + len(word), other[1])
                                              for (_, word, place), other in pairs if word != other[1]))
                by_pieces += len(found) > 1
            for other in texts[::9]:
                for by in (cut, words_of, list, lambda one: one.split(' ')):
                    found = word_edits(text, other, by)
                    self.assertEqual(applied(text, found), other)
                    self.assertTrue(is_lot(text, found))
                    if len(by(text)) != len(by(other)):
                        self.assertEqual(found, smallest(text, other))
        self.assertGreater(by_pieces, 50)

    def test_texts_told_neat_by_edits_between_words(self):
        between = 0
        for rows in programs(40, 64):
            text = told_plain(rows)
            behind = neat(text)
            found = word_edits(text, behind, words_of)
            self.assertEqual(applied(text, found), behind)
            self.assertEqual(applied(behind, backward(text, found)), text)
            # The words are the same, so what is exchanged is gaps alone.
            for start, end, word in found:
                self.assertEqual((text[start:end] + word).strip(' \n'), '')
            between += len(found) > 5
            self.assertEqual(joined(words_of(applied(text, found))), joined(words_of(text)))
        self.assertGreater(between, 30)


if __name__ == '__main__':
    unittest.main()
