"""Point 2, the language's signs: texts are put together here from words, blanks, remarks and row's ends."""

import itertools
import unittest

from helper import tuples_throughout
from neatwright.errors import BadSign
from neatwright.signs import (FIGURES, KEYS, MARKS, SMALL, check_name, cut, is_name, joined, piece_at, remarks_of,
                              row_and_column, run_on, same_words, without_gaps_at_ends, words_of)

WORD_KINDS = ('key', 'name', 'number', 'mark')
# Few enough that all rows of four can be tried, and of each kind those that are told apart by hardest.
PIECES = (('key', 'if'), ('name', 'iff'), ('name', 'a_1'), ('number', '0'), ('number', '907'), ('mark', '='),
          ('mark', '=='), ('mark', '{'), ('gap', ' '), ('gap', '   '), ('gap', '\n'), ('gap', '  \n\n '),
          ('remark', '#'), ('remark', '# A? #01 _z  '))
LONG = (('remark', '# first'), ('gap', '\n'), ('key', 'def'), ('gap', ' '), ('name', 'f'), ('mark', '('), ('name', 'x'),
        ('mark', ','), ('gap', ' '), ('name', 'y2_'), ('mark', ')'), ('gap', '  '), ('mark', '{'), ('remark', '#head '),
        ('gap', '\n\n    '), ('remark', '# own'), ('gap', '\n'), ('remark', '#next'), ('gap', '\n    '),
        ('key', 'give'), ('gap', ' '), ('name', 'x'), ('mark', '=='), ('mark', '-'), ('mark', '-'), ('number', '10'),
        ('mark', ';'), ('gap', '   '), ('remark', '#'), ('gap', '\n'), ('mark', '}'), ('gap', ' \n \n'))
BAD_BITS = ('A', 'aB', '?', '01', '00', '007', '_', '_a', '1_', '\t', '\r', '%', '!', '"', '.', '/', '>', '$', '@', '~',
            '\\', '\u00e4', '\u0661', '\u00b2', '\u00a0', '\x00')


def may_follow(one, other):
    """Tell whether a piece behind another is cut from it: no words that run together, no remark that goes on."""
    if one[0] == 'remark':
        return other[1].startswith('\n')
    if one[0] == 'gap':
        return other[0] != 'gap'
    if one[0] in ('key', 'name'):
        return other[0] not in ('key', 'name', 'number')
    if one[0] == 'number':
        return other[0] != 'number'
    return one[1] != '=' or other[1] not in ('=', '==')


def all_lots():
    """Give all rows of up to four pieces that stay what they are, and a long one."""
    for count in range(5):
        for lot in itertools.product(PIECES, repeat=count):
            if all(may_follow(one, other) for one, other in zip(lot, lot[1:])):
                yield lot
    yield LONG


def with_places(lot):
    """Return (kind, word, place) of pieces, places by how many signs stand ahead."""
    found = []
    place = 0
    for kind, word in lot:
        found.append((kind, word, place))
        place += len(word)
    return tuple(found)


def text_of(lot):
    return ''.join(word for _, word in lot)


def stands_alone(text, place):
    """Tell, by going back sign by sign, whether nothing but blanks is ahead of a place in its row."""
    while place > 0 and text[place - 1] == ' ':
        place -= 1
    return place == 0 or text[place - 1] == '\n'


def remarks_expected(text, pieces):
    found = []
    words = 0
    for kind, word, place in pieces:
        if kind in WORD_KINDS:
            words += 1
        if kind == 'remark':
            while word.endswith(' '):
                word = word[:-1]
            found.append((words, word, stands_alone(text, place)))
    return tuple(found)


def without_gaps_expected(text):
    """Put the text together sign by sign; blanks and row's ends wait until it's known what is behind them."""
    found = ''
    blanks = 0
    ends = 0
    for sign in text:
        if sign == ' ':
            blanks += 1
        elif sign == '\n':
            ends += 1
            blanks = 0
        else:
            found += '\n' * ends + ' ' * blanks + sign
            blanks = ends = 0
    return found + '\n' if found else ''


class Pieces(unittest.TestCase):

    def test_texts_are_cut_in_the_pieces_they_were_put_together_from(self):
        for lot in all_lots():
            text = text_of(lot)
            self.assertEqual(cut(text), with_places(lot), text)

    def test_pieces_put_together_are_the_text(self):
        for lot in all_lots():
            text = text_of(lot)
            self.assertEqual(joined(cut(text)), text)
        self.assertEqual(joined(list(cut('a = 1; # b'))), 'a = 1; # b')
        self.assertEqual(joined(()), '')

    def test_a_piece_begins_at_its_place(self):
        for lot in all_lots():
            text = text_of(lot)
            for kind, word, place in with_places(lot):
                self.assertEqual(piece_at(text, place), (kind, place + len(word)), (text, place))

    def test_a_piece_may_be_asked_for_within_another(self):
        self.assertEqual(piece_at('xif', 1), ('key', 3))
        self.assertEqual(piece_at('==', 1), ('mark', 2))
        self.assertEqual(piece_at('# # a', 2), ('remark', 5))
        with self.assertRaises(BadSign):
            piece_at('100', 1)
        self.assertEqual(piece_at('100', 2), ('number', 3))

    def test_no_piece_begins_outside_of_a_text(self):
        for place in (3, 4, -1):
            with self.subTest(place), self.assertRaises(BadSign):
                piece_at('abc', place)
        with self.assertRaises(BadSign):
            piece_at('', 0)

    def test_each_key_and_mark_is_told(self):
        for key in KEYS:
            self.assertEqual(cut(key), (('key', key, 0),))
            self.assertEqual(cut(key + 'x'), (('name', key + 'x', 0),))
        for mark in MARKS:
            self.assertEqual(cut(mark), (('mark', mark, 0),))
        self.assertEqual([word for _, word, _ in cut('===')], ['==', '='])
        self.assertEqual([word for _, word, _ in cut('= =')], ['=', ' ', '='])

    def test_each_sign_is_of_one_kind(self):
        marks = ''.join(MARKS)
        for sign in map(chr, range(256)):
            kinds = [kind for kind, signs in (('name', SMALL), ('number', FIGURES), ('mark', marks), ('gap', ' \n'),
                                              ('remark', '#')) if sign in signs]
            with self.subTest(sign):
                if kinds:
                    self.assertEqual(cut(sign), ((kinds[0], sign, 0),))
                else:
                    self.assertRaises(BadSign, cut, sign)

    def test_each_small_letter_figure_and_stroke_goes_on_a_name(self):
        for sign in map(chr, range(33, 256)):
            with self.subTest(sign):
                self.assertIs(is_name('a' + sign), sign in SMALL + FIGURES + '_')
                self.assertEqual(piece_at('a' + sign, 0)[1], 2 if sign in SMALL + FIGURES + '_' else 1)

    def test_blanks_and_rows_ends_alone_go_on_a_gap(self):
        for sign in map(chr, range(256)):
            with self.subTest(sign):
                self.assertEqual(piece_at(' ' + sign, 0), ('gap', 2 if sign in ' \n' else 1))
                self.assertEqual(piece_at('\n' + sign, 0), ('gap', 2 if sign in ' \n' else 1))

    def test_a_name_may_stand_right_behind_a_number(self):
        self.assertEqual(cut('10ab'), (('number', '10', 0), ('name', 'ab', 2)))

    def test_a_text_of_another_sign_is_refused(self):
        for bit in BAD_BITS:
            for text in (bit, 'say 1; ' + bit, '# ok\n' + bit + ' say', 'a\n' + bit):
                with self.subTest(text):
                    for deed in (cut, words_of, remarks_of):
                        with self.assertRaises(BadSign):
                            deed(text)
                    with self.assertRaises(BadSign):
                        same_words(text, 'a')
                    with self.assertRaises(BadSign):
                        same_words('a', text)

    def test_piece_at_refuses_the_same(self):
        for bit in BAD_BITS:
            if bit not in ('aB', '1_'):
                with self.subTest(bit), self.assertRaises(BadSign):
                    piece_at('a ' + bit, 2)

    def test_any_sign_may_stand_in_a_remark(self):
        for bit in BAD_BITS:
            with self.subTest(bit):
                self.assertEqual(cut('#' + bit), (('remark', '#' + bit, 0),))

    def test_numbers_of_one_nought_or_with_noughts_behind(self):
        for word in ('0', '1', '10', '100', '90210', '1' + '0' * 40):
            self.assertEqual(cut(word), (('number', word, 0),))

    def test_words_leave_out_remarks_and_gaps(self):
        for lot in all_lots():
            self.assertEqual(words_of(text_of(lot)), tuple(row for row in with_places(lot) if row[0] in WORD_KINDS))

    def test_what_is_told_are_tuples(self):
        text = text_of(LONG)
        for found in (cut(text), words_of(text), remarks_of(text), piece_at(text, 0), row_and_column(text, 9)):
            self.assertTrue(tuples_throughout(found) and isinstance(found, tuple))
        self.assertEqual((cut(''), words_of(''), remarks_of('')), ((), (), ()))


class Runs(unittest.TestCase):

    def test_a_run_ends_ahead_of_the_first_other_sign(self):
        for text in map(''.join, itertools.product('ab1', repeat=4)):
            for place in range(5):
                for signs in ('a', 'b1', 'ab1', 'xyz', ''):
                    end = place
                    for sign in text[place:]:
                        if sign not in list(signs):
                            break
                        end += 1
                    self.assertEqual(run_on(text, place, signs), end)

    def test_runs_of_the_named_signs(self):
        self.assertEqual(run_on('ab12 c', 0, SMALL), 2)
        self.assertEqual(run_on('ab12 c', 2, FIGURES), 4)
        self.assertEqual(run_on('', 0, SMALL), 0)


class Remarks(unittest.TestCase):

    def test_remarks_are_by_going_through_the_signs(self):
        for lot in all_lots():
            text = text_of(lot)
            found = remarks_of(text)
            self.assertEqual(found, remarks_expected(text, with_places(lot)), text)
            self.assertTrue(all(alone is True or alone is False for _, _, alone in found))

    def test_where_a_remark_stands_alone(self):
        rows = (('# a', ((0, '# a', True),)),
                ('   # a', ((0, '# a', True),)),
                ('\n# a\n', ((0, '# a', True),)),
                ('x # a', ((1, '# a', False),)),
                ('x# a\n  # b', ((1, '# a', False), (1, '# b', True))),
                ('x\n# a', ((1, '# a', True),)),
                ('# a\n# b\n\n #c', ((0, '# a', True), (0, '# b', True), (0, '#c', True))),
                ('# a\nx # b', ((0, '# a', True), (1, '# b', False))))
        for text, found in rows:
            self.assertEqual(remarks_of(text), found, text)

    def test_blanks_at_a_remarks_end_are_not_told(self):
        self.assertEqual(remarks_of('#  a  b   \n#   '), ((0, '#  a  b', True), (0, '#', True)))
        for sign in map(chr, range(256)):
            if sign not in ' \n':
                self.assertEqual(remarks_of('#a' + sign + '  '), ((0, '#a' + sign, True),))

    def test_words_ahead_are_words_alone(self):
        self.assertEqual(remarks_of('# a\nif x == 10 # b\n{ # c'),
                         ((0, '# a', True), (4, '# b', False), (5, '# c', False)))


class Places(unittest.TestCase):

    def test_rows_and_columns_are_by_going_through_the_signs(self):
        for text in [text_of(LONG)] + list(map(''.join, itertools.product('a \n', repeat=5))):
            row, column = 1, 1
            for place, sign in enumerate(text):
                self.assertEqual(row_and_column(text, place), (row, column), (text, place))
                row, column = (row + 1, 1) if sign == '\n' else (row, column + 1)
            self.assertEqual(row_and_column(text, len(text)), (row, column))

    def test_a_bare_text_has_a_first_place(self):
        self.assertEqual(row_and_column('', 0), (1, 1))


class Names(unittest.TestCase):

    def test_names_by_their_signs(self):
        for word in map(''.join, itertools.chain.from_iterable(
                itertools.product('az09_A \n#-', repeat=count) for count in range(5))):
            good = word != '' and word[0] in 'az' and all(sign in 'az09_' for sign in word)
            self.assertIs(is_name(word), good, word)

    def test_all_signs_of_names(self):
        for word in (SMALL, 'a' + FIGURES, 'a_', 'a__b', 'sayx', 'iff', 'say_', 'el', 'define', 'z9_9z'):
            self.assertIs(is_name(word), True, word)

    def test_what_is_no_name(self):
        for word in KEYS + ('', '1a', '_a', 'A', 'aB', 'a b', ' a', 'a ', 'a\n', 'a-b', '\u00e4', 'a\u00e4',
                            'a\u0661', '7', '#', '=='):
            with self.subTest(word):
                self.assertIs(is_name(word), False)
                with self.assertRaises(BadSign):
                    check_name(word)

    def test_a_name_is_returned(self):
        self.assertEqual(check_name('a_1'), 'a_1')
        self.assertEqual(check_name('x'), 'x')


class Words(unittest.TestCase):

    def test_gaps_and_remarks_are_aside(self):
        self.assertIs(same_words('a=1;', ' a =\n1 # x\n ;#'), True)
        self.assertIs(same_words('', '# a\n \n'), True)
        self.assertIs(same_words('', ''), True)

    def test_other_words_are_told(self):
        for one, other in (('a', 'b'), ('a', ''), ('', 'a'), ('a b', 'ab'), ('= =', '=='), ('a;', 'a'), ('a b', 'b a'),
                           ('1 1', '11'), ('a', '# a')):
            self.assertIs(same_words(one, other), False, (one, other))

    def test_words_of_all_rows_are_the_same_with_other_gaps(self):
        for lot in all_lots():
            words = [word for kind, word in lot if kind in WORD_KINDS]
            self.assertIs(same_words(text_of(lot), '\n'.join(words) + ' # x'), True)
            self.assertIs(same_words(text_of(lot), ' '.join(words + ['z'])), False)


class Ends(unittest.TestCase):

    def test_rows_without_gaps_are_by_going_through_the_signs(self):
        for text in map(''.join, itertools.chain.from_iterable(
                itertools.product('a \n\t', repeat=count) for count in range(7))):
            self.assertEqual(without_gaps_at_ends(text), without_gaps_expected(text), repr(text))

    def test_ordinary_texts(self):
        self.assertEqual(without_gaps_at_ends('a  \n\n  b # c '), 'a\n\n  b # c\n')
        self.assertEqual(without_gaps_at_ends('a\n\n \n'), 'a\n')
        self.assertEqual(without_gaps_at_ends(''), '')
        self.assertEqual(without_gaps_at_ends(' \n '), '')

    def test_a_text_that_is_not_the_languages_is_taken_too(self):
        self.assertEqual(without_gaps_at_ends('A? \n'), 'A?\n')
        for sign in map(chr, range(256)):
            if sign not in ' \n':
                self.assertEqual(without_gaps_at_ends('a ' + sign + '  \n' + sign), 'a ' + sign + '\n' + sign + '\n')


if __name__ == '__main__':
    unittest.main()
