"""Point 18: lines said to a desk, what they answer, what is refused, what is written and done again."""

import random
import unittest

from making import Maker
from neatwright.desks import Desk, done_again, figure_of, lines_of
from neatwright.errors import (BadChange, BadLayout, BadPaper, BadRun, BadSign, BadSize, BadStore, BadTree, NeatFault,
                               NoSuch)
from neatwright.folds import folded
from neatwright.lints import counts
from neatwright.moves import put_in
from neatwright.reads import read, told_plain
from neatwright.renames import renamed, renamed_def
from neatwright.runs import said
from neatwright.scopes import names_of, scopes_of
from neatwright.shapes import neat_rows

PROGRAM = 'def f(x) { y = x + 1; give y; } a = 2; b = f(a) + a; say b;'
ALL_ANSWERS = ('show', 'run', 'lint', 'scopes', 'names -', 'names f', 'neat 20', 'neat 1', 'neat 999')


def desk_of(*lines):
    desk = Desk()
    for line in lines:
        desk.do(line)
    return desk


def state(desk):
    return desk.program, list(desk.ahead), desk.text, desk.many


def figure(text):
    """Return a text's figure, sign by sign, as point 18 has it."""
    plain, weighed = 0, 0
    for place in range(1, len(text) + 1):
        number = ord(text[place - 1])
        plain, weighed = (plain + number) % 2000003, (weighed + place * number) % 9973
    return plain * 9973 + weighed


def row_of(number, line):
    body = str(number) + ' ' + line
    return body + ' ' + str(figure(body)) + '\n'


class Answers(unittest.TestCase):

    def test_a_new_desk(self):
        desk = Desk()
        self.assertEqual((desk.program, desk.ahead, desk.text, desk.many), ((), [], '', 0))
        self.assertIsInstance(desk.ahead, list)
        self.assertEqual([desk.say(line) for line in ('show', 'run', 'lint', 'names -', 'scopes', 'neat 60')],
                         ['', '', '', '', '-', ''])

    def test_lines_that_change_the_program(self):
        desk = Desk()
        for line, told in (
                ('add ' + PROGRAM, PROGRAM), ('add say 1 + 2; # three', PROGRAM + ' say 1 + 2;'),
                ('fold', PROGRAM + ' say 3;'),
                ('rename - a c', 'def f(x) { y = x + 1; give y; } c = 2; b = f(c) + c; say b; say 3;'),
                ('rename f x z', 'def f(z) { y = z + 1; give y; } c = 2; b = f(c) + c; say b; say 3;'),
                ('call f next', 'def next(z) { y = z + 1; give y; } c = 2; b = next(c) + c; say b; say 3;'),
                ('put - c', 'def next(z) { y = z + 1; give y; } b = next(2) + 2; say b; say 3;'),
                ('back', 'def next(z) { y = z + 1; give y; } c = 2; b = next(c) + c; say b; say 3;'),
                ('back', 'def f(z) { y = z + 1; give y; } c = 2; b = f(c) + c; say b; say 3;'),
                ('add d = 1; put = d;', 'def f(z) { y = z + 1; give y; } c = 2; b = f(c) + c; say b; say 3; d = 1; '
                                        'put = d;'),
                ('put - d', 'def f(z) { y = z + 1; give y; } c = 2; b = f(c) + c; say b; say 3; put = 1;')):
            with self.subTest(line=line):
                many, ahead, before = desk.many, list(desk.ahead), desk.program
                self.assertEqual(desk.say(line), told)
                self.assertEqual(told_plain(desk.program), told)
                self.assertEqual(desk.program, read(told))
                self.assertEqual(desk.many, many + 1)
                self.assertEqual(desk.ahead, ahead[:-1] if line == 'back' else ahead + [before])
        self.assertEqual(desk_of('add def f(a) { b = 1; give b + a; }').say('put f b'), 'def f(a) { give 1 + a; }')
        self.assertEqual(desk_of('add say 1;').say('add'), 'say 1;')

    def test_answers(self):
        desk = desk_of('add ' + PROGRAM)
        before = state(desk)
        for width in ('1', '9', '10', '100', '999'):
            self.assertEqual(desk.say('neat ' + width), neat_rows(desk.program, int(width)).replace('\n', '/'))
        for line, answer in (
                ('show', PROGRAM), ('run', '5'), ('lint', ''), ('scopes', '- f'), ('names -', 'a b'), ('names f', 'x y'),
                ('neat 99', 'def f(x) {/    y = x + 1;/    give y;/}/a = 2;/b = f(a) + a;/say b;/'),
                ('neat 12', 'def f(x) {/    y = x/        + 1;/    give y;/}/a = 2;/b = f(a)/    + a;/say b;/')):
            with self.subTest(line=line):
                self.assertEqual(desk.say(line), answer)
                self.assertEqual(desk.do(line), answer)
                self.assertEqual(state(desk), before)

    def test_what_a_program_says(self):
        for text, answer in (
                ('say 1; say -2; say 3;', '1 -2 3'), ('', ''), ('say 1; say a; say 2;', '1 ...'), ('say f();', '...'),
                ('while 1 { }', '...'), ('n = 3; while n { say n; n = n - 1; }', '3 2 1'),
                ('n = 198; while 1 { n = n - 2; } say n;', '...'),
                # It has two hundred steps, and no more.
                ('say 1; ' * 200, ' '.join(['1'] * 200)), ('say 1; ' * 201, ' '.join(['1'] * 200 + ['...']))):
            with self.subTest(text=text[:40]):
                self.assertEqual(desk_of('add ' + text).say('run'), answer)

    def test_slips(self):
        desk = desk_of('add say a; say g(); if 1 { say 2 - 2; } def f(x) { give 1; say 3; } b = c; b = b;')
        self.assertEqual(desk.say('lint'), 'unset 2 idle 1 unread 1 uncalled 1 no-def 1 fixed-test 1 same 1 unreached 1 '
                                           'self 1')
        self.assertEqual(desk_of('add def f(x) { give x; } say f();').say('lint'), 'count 1')

    def test_blanks_about_words(self):
        desk = desk_of('add a = 1; say a;')
        self.assertEqual(desk.say('  rename   -  a    b '), 'b = 1; say b;')
        self.assertEqual(desk.say('add   say 2;   '), 'b = 1; say b; say 2;')
        self.assertEqual(desk.say('names   - '), 'b')
        self.assertEqual(desk.say('fold  '), 'b = 1; say b; say 2;')
        self.assertEqual(lines_of(desk.text), ('add a = 1; say a;', 'rename -  a    b', 'add say 2;', 'fold '))

    def test_scopes_of_words(self):
        desk = Desk()
        self.assertEqual([desk.scope(word) for word in ('-', 'f', 'abc')], ['', 'f', 'abc'])

    def test_answers_by_head_and_rest(self):
        desk = desk_of('add ' + PROGRAM)
        self.assertEqual(desk.answer('show', ''), PROGRAM)
        self.assertEqual(desk.answer('names', 'f'), 'x y')
        self.assertEqual(desk.answer('neat', '99'), neat_rows(desk.program, 99).replace('\n', '/'))
        for head, rest in (('show', 'x'), ('none', ''), ('', ''), ('neat', ''), ('names', '')):
            with self.subTest(head=head), self.assertRaises(BadSign):
                desk.answer(head, rest)
        with self.assertRaises(NoSuch):
            desk.answer('names', 'g')
        with self.assertRaises(BadSize):
            desk.answer('neat', '0')

    def test_let(self):
        desk = Desk()
        self.assertEqual(desk.let(read('say 1;'), 'add say 1;'), 'say 1;')
        self.assertEqual((desk.program, desk.ahead, desk.text, desk.many), (read('say 1;'), [], row_of(0, 'add say 1;'), 1))


class Refused(unittest.TestCase):

    def refused(self, desk, line, answer, error):
        before = state(desk)
        self.assertEqual(desk.say(line), 'error: ' + answer)
        with self.assertRaises(error):
            desk.do(line)
        self.assertEqual(state(desk), before)

    def test_other_lines_and_other_words(self):
        desk = desk_of('add ' + PROGRAM, 'fold')
        for line in (
                '', ' ', 'none', 'Show', 'shows', 'show x', 'run 1', 'run 200', 'lint a', 'scopes -', 'fold x', 'fold -',
                'back 1', 'back back', 'names', 'names - f', 'names f x', 'neat', 'neat 20 4', 'rename', 'rename -',
                'rename - a', 'rename - a b c', 'rename f', 'call', 'call f', 'call f g h', 'put', 'put -', 'put - a b',
                'say 1;', 'undo', 'show\n', 'add say 1;\nsay 2;', 'run\n', '\n', 'show\tx', 'add\tsay 1;', '-', 'fold;',
                'answer', 'error: sign', 'neat20', 'let', '0 fold'):
            with self.subTest(line=line):
                self.refused(desk, line, 'sign', BadSign)

    def test_words_that_can_be_no_names_or_numbers(self):
        desk = desk_of('add ' + PROGRAM)
        for bad in ('1', 'A', 'a-b', 'if', 'say', '_a', 'a.b', '+', 'aB', 'give', '--'):
            for line in (f'rename - a {bad}', f'rename - {bad} c', f'rename {bad} a c', f'call {bad} g', f'call f {bad}',
                         f'put {bad} a', f'put - {bad}', f'names {bad}', f'rename none a {bad}', f'rename - none {bad}',
                         f'call none {bad}', f'put none {bad}', f'rename {bad} none none'):
                with self.subTest(line=line):
                    self.refused(desk, line, 'sign', BadSign)
        # A stroke is the outer scope, no name.
        for line in ('rename - - a', 'rename - a -', 'call - f', 'call f -', 'put - -'):
            with self.subTest(line=line):
                self.refused(desk, line, 'sign', BadSign)
        for width in ('a', '-1', '+5', '1.5', '1000', '0060', '060', '00', '007', '2 0', '1_0', '', '10000', 'f', '1a'):
            with self.subTest(width=width):
                self.refused(desk, 'neat ' + width, 'sign', BadSign)

    def test_each_kind(self):
        desk = desk_of('add ' + PROGRAM)
        for line, answer, error in (
                ('add say', 'sign', BadSign), ('add say 1', 'sign', BadSign), ('add a = 01;', 'sign', BadSign),
                ('add }', 'sign', BadSign), ('add A = 1;', 'sign', BadSign),
                ('add def f() { }', 'tree', BadTree), ('add give 1;', 'tree', BadTree),
                ('add if 1 { def g() { } }', 'tree', BadTree), ('add def g(x, x) { }', 'tree', BadTree),
                ('add def g() { } def g() { }', 'tree', BadTree),
                ('rename - a b', 'change', BadChange), ('rename f x y', 'change', BadChange),
                ('put - b', 'change', BadChange), ('put f y', 'change', BadChange),
                ('rename - x c', 'no such', NoSuch), ('rename f a c', 'no such', NoSuch),
                ('rename g x c', 'no such', NoSuch), ('call g h', 'no such', NoSuch), ('call a h', 'no such', NoSuch),
                ('put - x', 'no such', NoSuch), ('put f x', 'no such', NoSuch), ('put g x', 'no such', NoSuch),
                ('names g', 'no such', NoSuch), ('names a', 'no such', NoSuch), ('neat 0', 'size', BadSize)):
            with self.subTest(line=line):
                self.refused(desk, line, answer, error)
        self.assertEqual(desk.say('call f f'), PROGRAM)
        desk = desk_of('add say g(); def f() { } def h() { }')
        for line in ('call f g', 'call f h'):
            self.refused(desk, line, 'change', BadChange)

    def test_back_with_nothing_ahead(self):
        desk = Desk()
        self.refused(desk, 'back', 'no such', NoSuch)
        desk = desk_of('add say 1;', 'back')
        self.assertEqual(desk.program, ())
        self.refused(desk, 'back', 'no such', NoSuch)
        self.refused(desk, 'back 1', 'sign', BadSign)
        self.assertEqual(desk.many, 2)

    def test_each_error_by_its_kind(self):
        kinds = {BadSign: 'sign', BadTree: 'tree', BadLayout: 'layout', BadRun: 'run', BadChange: 'change',
                 BadPaper: 'paper', BadSize: 'size', NoSuch: 'no such'}

        class Refusing(Desk):
            """A desk that refuses each line for a reason of its own."""

            def do(self, line):
                raise self.error('why')

        for error, kind in kinds.items():
            desk = Refusing()
            desk.error = error
            self.assertEqual(desk.say('show'), 'error: ' + kind)


class Written(unittest.TestCase):

    def test_figures(self):
        self.assertEqual(figure_of(''), 0)
        self.assertEqual(figure_of('a'), 97 * 9973 + 97)
        self.assertEqual(figure_of('ab'), 195 * 9973 + 97 + 2 * 98)
        self.assertNotEqual(figure_of('ab'), figure_of('ba'))
        long = 'add ' + 'say zzzzzz; ' * 3000
        self.assertEqual(figure_of(long), figure(long))
        self.assertEqual(figure_of('z' * 20000), 122 * 20000 % 2000003 * 9973 + sum(
            122 * place for place in range(1, 20001)) % 9973)

    def test_rows(self):
        desk = Desk()
        said_lines = ('add say 1 + 1;', 'show', 'fold', 'none', 'add  a = 2; ', 'rename - a b', 'back', 'run', 'put - a')
        for line in said_lines:
            desk.say(line)
        written = ('add say 1 + 1;', 'fold ', 'add a = 2;', 'rename - a b', 'back ', 'put - a')
        self.assertEqual(desk.text, ''.join(row_of(number, line) for number, line in enumerate(written)))
        self.assertEqual(desk.many, 6)
        self.assertEqual(lines_of(desk.text), written)
        self.assertEqual(desk.text.split('\n')[0], '0 add say 1 + 1; ' + str(figure('0 add say 1 + 1;')))

    def test_a_line_that_changes_nothing_is_written(self):
        desk = desk_of('add say 1;', 'fold', 'fold', 'add # nothing')
        self.assertEqual(desk.many, 4)
        self.assertEqual(desk.say('back'), 'say 1;')
        self.assertEqual(desk.many, 5)

    def test_texts_that_are_whole(self):
        self.assertEqual(lines_of(''), ())
        self.assertEqual(lines_of('no end'), ())
        self.assertEqual(lines_of(row_of(0, 'anything')), ('anything',))
        self.assertEqual(lines_of(row_of(0, 'a b') + '1 half'), ('a b',))
        self.assertIsInstance(lines_of(row_of(0, 'a')), tuple)

    def test_texts_that_are_not_whole(self):
        one, two = row_of(0, 'add say 1;'), row_of(1, 'fold ')
        for text in ('\n', one + '\n', two, one + one, row_of(1, 'add say 1;'), one + row_of(2, 'fold '), two + one,
                     row_of('00', 'add say 1;'), row_of('', 'add'), row_of('-0', 'add'), one[:-2] + '\n',
                     one[:-1] + '0\n', one[:-1] + ' \n', ' ' + one, '0 add say 1;\n', one.replace('say', 'sya'),
                     one.replace('1;', '2;'), '0\n', '0 0\n', 'a\n' + one):
            with self.subTest(text=text):
                for deed in (lines_of, done_again):
                    with self.assertRaises(BadStore):
                        deed(text)

    def test_texts_that_no_desk_writes(self):
        one = row_of(0, 'add say 1;')
        for text in (row_of(0, 'back '), row_of(0, 'none'), row_of(0, 'add say'), row_of(0, 'rename - a b'),
                     row_of(0, 'show'), row_of(0, 'show '), one + row_of(1, 'run '), row_of(0, ''), row_of(0, 'fold x'),
                     one + row_of(1, 'put - a') + row_of(2, 'fold '), row_of(0, 'add  say 1;'), row_of(0, 'neat 0')):
            with self.subTest(text=text):
                self.assertIsInstance(lines_of(text), tuple)
                with self.assertRaises(BadStore):
                    done_again(text)


class Sessions(unittest.TestCase):

    def lines(self, seed):
        """Return lines to be said: most of those that change something have names that are there, some haven't."""
        chance = random.Random(seed)
        found = []
        for number in range(14):
            maker = Maker(seed * 100 + number)
            text = told_plain([maker.step(1, False) for _ in range(2)])
            new = chance.choice(('a', 'b', 'c', 'd', 'e'))
            scope = chance.choice(('-', '-', 'f', 'g', 'none'))
            found.append(chance.choice((
                'add ' + text, 'add ' + text, f'add def {chance.choice("fg")}(a) {{ b = a; give b + 1 + 1; }}', 'fold',
                f'rename {scope} {chance.choice("abc")} {new}', f'call {chance.choice("fgh")} {chance.choice("fgh")}',
                f'put {scope} {chance.choice("abc")}', 'back', 'show', 'run', 'lint', 'scopes', 'names ' + scope,
                f'neat {chance.randrange(0, 50)}', 'none', 'fold 1', f'add {new} = {chance.randrange(9)};')))
        return found

    def do(self, programs, line):
        """Return (the programs one behind the other, the last one the present one; the answer), as the test has it."""
        here = programs[-1]
        head, rest = (line + ' ').split(' ', 1)
        words = rest.split()
        if words[:1] == ['-'] and head in ('rename', 'put', 'names'):
            words[0] = ''
        if head == 'back':
            if len(programs) == 1:
                raise NoSuch
            return programs[:-1], told_plain(programs[-2])
        changed = {'add': lambda: here + read(rest), 'fold': lambda: folded(here)[0],
                   'rename': lambda: renamed(here, *words), 'call': lambda: renamed_def(here, *words),
                   'put': lambda: put_in(here, *words)}
        if head in changed and (head != 'fold' or words == []):
            behind = changed[head]()
            read(told_plain(behind))
            return programs + [behind], told_plain(behind)
        if head == 'run':
            numbers, stuck = said(here, 200)
            return programs, ' '.join([*map(str, numbers), '...'][:len(numbers) + stuck])
        answers = {'show': lambda: told_plain(here), 'names': lambda: ' '.join(names_of(here, words[0])),
                   'lint': lambda: ' '.join(f'{"-".join(kind.split())} {count}' for kind, count in counts(here).items()),
                   'scopes': lambda: ' '.join(scope or '-' for scope in scopes_of(here)),
                   'neat': lambda: '/'.join(neat_rows(here, int(words[0])).split('\n'))}
        if head not in answers:
            raise BadSign
        return programs, answers[head]()

    def test_made_sessions(self):
        refused, back, done = 0, 0, 0
        for seed in range(80):
            desk, programs, written = Desk(), [()], []
            for line in self.lines(seed):
                before = state(desk)
                answer = desk.say(line)
                try:
                    programs, mine = self.do(programs, line)
                except NeatFault as fault:
                    mine = 'error: ' + {'NoSuch': 'no such'}.get(type(fault).__name__, type(fault).__name__[3:].lower())
                    self.assertEqual(state(desk), before)
                    refused += 1
                else:
                    if line.split()[0] in ('add', 'fold', 'rename', 'call', 'put', 'back'):
                        written.append(line if ' ' in line else line + ' ')
                        back, done = back + (line == 'back'), done + 1
                self.assertEqual(answer, mine, line)
                self.assertEqual([*desk.ahead, desk.program], programs)
                self.assertEqual(desk.text, ''.join(row_of(number, row) for number, row in enumerate(written)))
                self.assertEqual(desk.many, len(written))
            self.check_done_again(desk)
        self.assertGreater(min(refused, done), 200)
        self.assertGreater(back, 30)

    def check_done_again(self, desk):
        again = done_again(desk.text)
        self.assertEqual(state(again), state(desk))
        for line in ALL_ANSWERS + ('fold', 'back', 'add say 7;', 'back', 'back', 'show'):
            self.assertEqual(again.say(line), desk.say(line))
        self.assertEqual(state(again), state(desk))

    def test_cut_anywhere(self):
        desk = Desk()
        states = [state(desk)]
        for line in ('add say 1 + 1; a = 2;', 'fold', 'rename - a b', 'back', 'add def f() { }', 'call f g'):
            desk.do(line)
            states.append(state(desk))
        for end in range(len(desk.text) + 1):
            cut = desk.text[:end]
            again = done_again(cut)
            self.assertEqual(state(again), states[cut.count('\n')])

    def test_a_sign_exchanged(self):
        desk = desk_of('add say 1 + 1; a = 2;', 'fold', 'rename - a b', 'back')
        chance = random.Random(5)
        last = len(desk.text) - 1
        for place in range(len(desk.text)):
            for sign in {'x', ' ', '0', '7', '\n', chance.choice('abcdef=;+-#'), chr(ord(desk.text[place]) + 1)}:
                if sign == desk.text[place] or place == last:
                    continue
                text = desk.text[:place] + sign + desk.text[place + 1:]
                with self.subTest(place=place, sign=sign):
                    for deed in (lines_of, done_again):
                        with self.assertRaises(BadStore):
                            deed(text)
        # Without its end, the last row is left out.
        self.assertEqual(lines_of(desk.text[:-1] + 'x'), lines_of(desk.text)[:-1])

    def test_two_signs_in_each_others_place(self):
        desk = desk_of('add say 12; ab = 3;')
        for place in range(2, len('0 add say 12; ab = 3;') - 1):
            text = desk.text[:place] + desk.text[place + 1] + desk.text[place] + desk.text[place + 2:]
            if text != desk.text:
                with self.subTest(place=place), self.assertRaises(BadStore):
                    done_again(text)


if __name__ == '__main__':
    unittest.main()
