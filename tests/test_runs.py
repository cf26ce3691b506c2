"""Point 5: programs carried out, what uses up a step, what calls give, and what is refused in which order."""

import unittest

from making import Maker, programs
from neatwright.errors import BadRun, BadSize, BadTree
from neatwright.reads import read, read_worth
from neatwright.runs import MOST, Run, by_deed, run, said, says_same, steps_used, value_of
from oracle import carried_out

# Programs that go on to their end: what they say, the names behind, and the steps used.
GO_ON = (
    ('', (), {}, 0),
    ('say 7;', (7,), {}, 1),
    ('b = 1; a = b + 1; b = a * 3;', (), {'a': 2, 'b': 6}, 3),
    ('b = 2; a = 1; say a; say b; say a - b;', (1, 2, -1), {'a': 1, 'b': 2}, 5),
    ('if 1 { say 1; }', (1,), {}, 2), ('if 0 { say 1; }', (), {}, 1), ('if 0 { say 1; } else { say 2; }', (2,), {}, 2),
    ('if -1 { say 1; } else { say 2; }', (1,), {}, 2), ('if 2 { } else { say 2; }', (), {}, 1),
    ('if 0 { } else if 0 { } else { say 3; }', (3,), {}, 3),
    ('if 0 { } else if 5 { say 2; } else { say 3; }', (2,), {}, 3),
    ('if 1 { a = 1; } say a;', (1,), {'a': 1}, 3),
    ('while 0 { say 1; }', (), {}, 1),
    ('a = 3; while a { say a; a = a - 1; }', (3, 2, 1), {'a': 0}, 11),
    ('a = 3; while 0 < a { a = a - 1; } say a;', (0,), {'a': 0}, 9),
    ('a = 2; while a { a = a - 1; b = 2; while b { b = b - 1; say a * 10 + b; } }', (11, 10, 1, 0),
     {'a': 0, 'b': 0}, 22),
    ('def f() { say 1; }', (), {}, 1),
    ('def f() { say 1; } say f();', (1, 0), {}, 4),
    ('def f() { } a = f();', (), {'a': 0}, 3),
    ('def f(x, y) { give x - y; } say f(5, 3);', (2,), {}, 4),
    ('def f(x) { give x; say 9; } say f(4); say f(0);', (4, 0), {}, 7),
    ('def f(x) { if x { give 1; } } say f(3); say f(0);', (1, 0), {}, 8),
    ('def f(x) { while x { x = x - 1; give x; } give 9; } say f(3); say f(0);', (2, 9), {}, 11),
    ('def f(x) { while 1 { if x == 3 { give x; } x = x + 1; } } say f(1);', (3,), {}, 13),
    # A def's names are its own, and its params are set anew by each call.
    ('a = 1; def f(b) { a = 5; b = 6; give a + b; } b = 2; say f(3); say a; say b;', (11, 1, 2), {'a': 1, 'b': 2}, 10),
    ('def f(a) { give a * a; } a = 3; say f(a + 1); say a;', (16, 3), {'a': 3}, 6),
    ('def f(n) { if n < 2 { give 1; } give n * f(n - 1); } say f(5);', (120,), {}, 17),
    ('def f(x) { give g(x) + 1; } def g(x) { give x * 2; } say f(4);', (9,), {}, 7),
    # A name may be a def's and be set as well; defs may be there behind a step that needs them not yet.
    ('def f() { give 3; } f = 2; say f + f();', (5,), {'f': 2}, 5),
    ('def f() { give g(); } def g() { give 4; } say f();', (4,), {}, 7),
    ('say 1 < 2; say 2 < 1; say 1 == 1; say 1 == 2; say 1 < 1; say -2 < 1;', (1, 0, 1, 0, 0, 1), {}, 6),
    ('say 2 - 3 - 4; say 2 - (3 - 4); say 2 + 3 * 4; say -(2 + 3) * 2; say --2;', (-5, 3, 14, -10, 2), {}, 5),
    ('def f(x) { say x; give x; } say f(1) + f(2) * f(3); say f(4) < f(5);', (1, 2, 3, 7, 4, 5, 1), {}, 18),
    ('def f(x) { say x; give x; } say f(f(1) + f(2));', (1, 2, 3, 3), {}, 11),
)
# Programs that can't go on, each by one thing, and what they say ahead of it.
REFUSED = (
    ('say a;', ()), ('say 1; say a; say 2;', (1,)), ('a = a;', ()), ('a = 1; say a + b;', ()), ('if a { say 1; }', ()),
    ('while a { }', ()), ('if 0 { a = 1; } say a;', ()), ('say -a;', ()), ('say 1 == a;', ()),
    # Outer names aren't seen inside, inner ones not outside.
    ('a = 1; def f() { give a; } say f();', ()), ('def f(b) { a = 1; } say f(1); say b;', (0,)),
    ('def f() { a = 1; } say f(); say a;', (0,)), ('def f(x) { give g(); } def g() { give x; } say f(1);', ()),
    # No def, or not yet.
    ('say f();', ()), ('say 1; say f(); def f() { }', (1,)), ('if f() { }', ()),
    ('def f() { give g(); } say f(); def g() { give 4; }', ()), ('a = 1; say a();', ()),
    # Another count of worths.
    ('def f() { } say f(1);', ()), ('def f(x) { } say f();', ()), ('def f(x) { } say f(1, 2);', ()),
    ('def f(x, y) { } say f(1);', ()),
    # What comes first refuses: the def, then the worths, the left ones first, then their count.
    ('def g() { say 1; give 1; } say f(g());', ()), ('def g() { say 1; } def f() { say 2; } say f(g());', (1,)),
    ('def g() { say 1; } def f() { } say f(g(), a, g());', (1,)), ('def g() { say 1; } say g() + a + g();', (1,)),
    ('def g() { say 1; } say a + g();', ()), ('def g() { say 1; } say g() * (g() - a);', (1, 1)),
    ('def g(x) { say x; } say g(1) == f(g(2));', (1,)),
    ('def g() { say 1; } def f(x) { say 2; } say f(g()) + f(a);', (1, 2)),
    # A failing call ends all of it.
    ('def f() { say 1; say a; say 2; } say 0; say f(); say 3;', (0, 1)),
    ('def f(n) { say n; give f(n + 1); } say f(1);', tuple(range(1, 41))),
)


def deep_calls(count):
    """Return a program of calls that are so many deep."""
    return read('def f(n) { if n == 1 { give 7; } give f(n - 1); } say f(' + str(count) + ');')


# Texts of a call's worth, or of the steps that give it, with as many things one in another as asked for.
NESTS = (
    ('blocks', lambda many: 'if n { ' * many + 'give 1 + f(n - 1);' + ' }' * many),
    ('elses', lambda many: ''.join(f'if n == -{link} {{ }} else ' for link in range(1, many + 1))
     + '{ give 1 + f(n - 1); }'),
    ('bare rows ahead', lambda many: 'if 1 - n * 0 { } else { ' * many + ' }' * many + ' give 1 + f(n - 1);'),
    ('rounds', lambda many: 'while n { ' * many + 'give 1 + f(n - 1);' + ' }' * many),
    ('brackets', lambda many: 'give 1 + ' + '(0 + ' * many + 'f(n - 1)' + ')' * many + ';'),
    ('negs', lambda many: 'give 1 + ' + '--' * many + 'f(n - 1);'),
    ('deeds', lambda many: 'give 1 + f(n - 1)' + ' + 0' * many + ';'),
    ('calls', lambda many: 'give 1 + ' + 'g(' * many + 'f(n - 1)' + ')' * many + ';'),
    ('tests', lambda many: 'if ' + '0 - (' * 2 * many + 'f(n - 1)' + ')' * 2 * many + ' { } give n;'),
    ('all', lambda many: 'while n { if n { ' * many + 'give 1 + ' + '-(0 - g(' * many + 'f(n - 1)' + '))' * many + ';'
     + ' } }' * many),
)


def nested(steps, calls):
    """Return a program whose def does some steps where its param is not nought, and that says what it gives."""
    return read(f'def g(x) {{ give x; }} def f(n) {{ if n == 0 {{ give 0; }} {steps} }} say f({calls}); say 8;')


class Runs(unittest.TestCase):

    def test_programs_that_go_on(self):
        for text, numbers, names, steps in GO_ON:
            with self.subTest(text=text):
                rows = read(text)
                found = run(rows)
                self.assertEqual(found, (numbers, names))
                self.assertEqual(list(found[1]), sorted(names))
                self.assertIsInstance(found, tuple)
                self.assertIsInstance(found[0], tuple)
                self.assertEqual(said(rows), (numbers, False))
                self.assertEqual(steps_used(rows), steps)

    def test_programs_that_cannot_go_on(self):
        for text, numbers in REFUSED:
            with self.subTest(text=text):
                rows = read(text)
                self.assertEqual(said(rows), (numbers, True))
                with self.assertRaises(BadRun):
                    run(rows)
                with self.assertRaises(BadRun):
                    steps_used(rows)

    def test_steps_that_just_suffice_and_fewer(self):
        for text, numbers, names, steps in GO_ON:
            rows = read(text)
            with self.subTest(text=text):
                self.assertEqual(run(rows, steps), (numbers, names))
                self.assertEqual(said(rows, steps), (numbers, False))
                self.assertEqual(steps_used(rows, steps), steps)
                for fewer in range(steps):
                    less, stopped = said(rows, fewer)
                    self.assertTrue(stopped)
                    self.assertEqual(less, numbers[:len(less)])
                    self.assertEqual(less, carried_out(rows, fewer)[0])
                    with self.assertRaises(BadRun):
                        run(rows, fewer)
                    with self.assertRaises(BadRun):
                        steps_used(rows, fewer)

    def test_a_call_uses_up_its_step_ahead_of_its_worths(self):
        rows = read('def g() { say 1; } def f(x) { say 2; } say f(g());')
        self.assertEqual([said(rows, most)[0] for most in range(3, 8)], [(), (), (), (1,), (1, 2, 0)])

    def test_made_programs_as_the_test_carries_them_out(self):
        ended = 0
        for rows in programs(300):
            for most in (0, 1, 7, 60, 1000):
                numbers, stopped, names, used = carried_out(rows, most)
                self.assertEqual(said(rows, most), (numbers, stopped))
                if not stopped:
                    ended += 1
                    self.assertEqual(run(rows, most), (numbers, names))
                    self.assertEqual(steps_used(rows, most), used)
        self.assertGreater(ended, 60)

    def test_forty_deep_and_one_more(self):
        self.assertEqual(run(deep_calls(40)), ((7,), {}))
        self.assertEqual(said(deep_calls(41)), ((), True))
        # Calls in one another's worths are not one within another.
        nested = 'f(' * 60 + '1' + ')' * 60
        self.assertEqual(said(read('def f(x) { give x; } say ' + nested + ';')), ((1,), False))
        two = read('def f(n) { if n == 0 { give 0; } give g(n - 1); } def g(n) { give f(n); } say f(19); say f(20);')
        self.assertEqual(said(two), ((0,), True))

    def test_forty_deep_however_much_stands_one_in_another(self):
        for kind, steps in NESTS:
            for many in (1, 10, 30, 60):
                with self.subTest(kind=kind, many=many):
                    program = nested(steps(many), 39)
                    self.assertEqual(said(program, 100000), ((39, 8), False))
                    self.assertEqual(run(program, 100000), ((39, 8), {}))
                    used = steps_used(program, 100000)
                    self.assertEqual(said(program, used), ((39, 8), False))
                    self.assertEqual(said(program, used - 1), ((39,), True))
                    for calls in (40, 41, 100):
                        self.assertEqual(said(nested(steps(many), calls), 100000), ((), True))
                        with self.assertRaises(BadRun):
                            run(nested(steps(many), calls), 100000)

    def test_deep_ones_as_the_test_carries_them_out(self):
        for kind, steps in NESTS:
            for many in (1, 2, 5):
                for calls in (0, 1, 6):
                    program = nested(steps(many), calls)
                    for most in (0, 9, 20, 50, 77, 100, 1000):
                        with self.subTest(kind=kind, many=many, calls=calls, most=most):
                            numbers, stopped, _, used = carried_out(program, most)
                            self.assertEqual(said(program, most), (numbers, stopped))
                            if not stopped:
                                self.assertEqual(steps_used(program, most), used)

    def test_rounds_and_calls_one_in_another(self):
        steps = 'while n - 3 { n = n - 1; m = 2; while m { m = m - 1; if m { say n; } } if n == 3 { give f(n); } } '
        program = read('def f(n) { ' + steps + ' say 50; } say f(6);')
        numbers, stopped, _, used = carried_out(program)
        self.assertEqual((numbers, stopped), ((5, 4, 3, 50, 0), False))
        self.assertEqual((said(program), steps_used(program)), ((numbers, stopped), used))

    def test_numbers_at_thirty_figures(self):
        greatest = 10 ** 30 - 1
        self.assertEqual(MOST, 10 ** 30)
        for text, found in (
                (f'{greatest - 1} + 1', greatest), (f'-{greatest - 1} - 1', -greatest), (f'-{greatest}', -greatest),
                (f'{greatest} - {greatest}', 0), (f'{10 ** 15} * {10 ** 14}', 10 ** 29),
                (f'{10 ** 10} * {10 ** 10} * {10 ** 9} * 9', 9 * 10 ** 29), (f'{greatest} == {greatest}', 1),
                (f'{greatest} < {greatest}', 0), (f'-{greatest} < 0', 1), (f'{greatest} * 1', greatest)):
            with self.subTest(text=text):
                self.assertEqual(value_of(read_worth(text), {}), found)
        for text in (f'{greatest} + 1', f'-{greatest} - 1', f'{10 ** 15} * {10 ** 15}', f'-{10 ** 15} * {10 ** 15}',
                     f'{greatest} + 1 - 1', f'{greatest} * {greatest} * 0', f'0 * ({greatest} + 1)',
                     f'{10 ** 30} + 1', f'{10 ** 30} * 1', f'{greatest} + 1 == 2'):
            with self.subTest(text=text), self.assertRaises(BadRun):
                value_of(read_worth(text), {})

    def test_rounds_without_an_end(self):
        for text in ('while 1 { }', 'while 1 { say 1; }', 'def f() { while 1 { } } say f();'):
            rows = read(text)
            numbers, stopped = said(rows)
            self.assertTrue(stopped)
            self.assertEqual(numbers, carried_out(rows)[0])
        self.assertEqual(len(said(read('while 1 { say 1; }'))[0]), 499)
        self.assertEqual(len(said(read('while 1 { say 1; }'), 11)[0]), 5)

    def test_wrong_programs_and_counts(self):
        for deed in (run, said, steps_used, Run):
            for most in (-1, -1000):
                with self.assertRaises(BadSize):
                    deed((), most)
            for rows in ((('give', ('num', 1)),), (('say', 1),), 5):
                with self.assertRaises(BadTree):
                    deed(rows)
                with self.assertRaises(BadTree):
                    deed(rows, 0)
        for one, other in (((('say', 1),), ()), ((), (('say', 1),))):
            with self.assertRaises(BadTree):
                says_same(one, other)
        with self.assertRaises(BadSize):
            says_same((), (), -1)
        self.assertEqual(run((), 0), ((), {}))

    def test_rows_that_are_a_list(self):
        rows = list(read('say 1;'))
        self.assertEqual(run(rows), ((1,), {}))
        self.assertEqual(rows, [('say', ('num', 1))])

    def test_two_programs_that_say_the_same(self):
        same = (('say 1;', 'a = 1; say a;'), ('', 'a = 1;'), ('say a;', 'say f();'),
                ('say 1; say a;', 'a = 1; say a; b = c;'))
        other = (('say 1;', 'say 2;'), ('say 1;', 'say 1; say 1;'), ('', 'say a;'), ('say 1;', 'say 1; say a;'))
        for lot, answer in ((same, True), (other, False)):
            for one, two in lot:
                with self.subTest(one=one, two=two):
                    self.assertIs(says_same(read(one), read(two)), answer)
                    self.assertIs(says_same(read(two), read(one)), answer)
        one, two = read('say 1; say 2;'), read('a = 1; say a; say 2;')
        self.assertTrue(says_same(one, two, 3))
        self.assertFalse(says_same(one, two, 2))
        self.assertTrue(says_same(one, two, 0))


class Parts(unittest.TestCase):

    def test_fields_at_the_beginning(self):
        rows = read('a = 1; def f() { }')
        made = Run(list(rows), 5)
        self.assertEqual((made.rows, made.defs, made.names, made.said, made.left, made.deep), (rows, {}, {}, [], 5, 0))
        self.assertIsInstance(made.rows, tuple)
        self.assertEqual(Run(rows).left, 1000)
        self.assertEqual(Run((), 0).left, 0)

    def test_fields_behind_a_run(self):
        rows = read('a = 1; def f() { say a; a = 2; } say 5; a = 3 + 0 * f();')
        done = Run(rows, 9)
        with self.assertRaises(BadRun):
            done.carry(done.rows, done.names)
        self.assertEqual((done.rows, done.defs, done.names, done.said, done.left, done.deep),
                         (rows, {'f': rows[1]}, {'a': 1}, [5], 3, 0))

    def test_steps_left(self):
        done = Run((), 2)
        self.assertIsNone(done.spend())
        self.assertEqual(done.left, 1)
        done.spend()
        for _ in range(2):
            with self.assertRaises(BadRun):
                done.spend()
            self.assertEqual(done.left, 0)

    def test_steps_carried_out_over_names(self):
        done = Run(())
        names = {'b': 4}
        self.assertIsNone(done.carry(read('a = b + 1; say a;'), names))
        self.assertEqual((names, done.names, done.said, done.left), ({'a': 5, 'b': 4}, {}, [5], 998))
        inner = read('def f() { if b { give 3; } say 9; }')[0][3]
        self.assertEqual(done.carry(inner, names), 3)
        self.assertEqual(done.carry((('give', ('num', 0)), ('say', ('num', 8))), names), 0)
        self.assertEqual((done.said, done.left), ([5], 995))
        self.assertIsNone(done.carry((), names))
        for text in ('say c;', 'if c { }', 'say f();'):
            with self.assertRaises(BadRun):
                done.carry(read(text), names)
        with self.assertRaises(BadRun):
            Run((), 0).carry(read('a = 1;'), {})

    def test_branches(self):
        done = Run((), 30)
        names = {'a': 2}
        self.assertIsNone(done.branch(read('if a { say 1; } else { say 2; }')[0], names))
        self.assertIsNone(done.branch(read('if a - 2 { say 1; } else { say 2; }')[0], names))
        self.assertEqual((done.said, done.left), ([1, 2], 28))
        self.assertIsNone(done.branch(read('while a { a = a - 1; }')[0], names))
        self.assertEqual((names, done.left), ({'a': 0}, 24))
        give = ('give', ('num', 0))
        self.assertEqual(done.branch(('while', ('num', 1), (give,)), names), 0)
        self.assertEqual(done.branch(('if', ('num', 1), (give,), ()), names), 0)
        self.assertEqual(done.branch(('if', ('num', 0), (), (give,)), names), 0)
        self.assertEqual(done.left, 20)
        with self.assertRaises(BadRun):
            done.branch(read('if b { }')[0], names)
        with self.assertRaises(BadRun):
            done.branch(read('while 1 { }')[0], names)
        self.assertEqual(done.left, 0)

    def test_worths_and_calls_by_themselves(self):
        rows = read('def f(x) { a = x; say a; give a * 2; } def g() { }')
        done = Run(rows, 20)
        done.carry(rows, done.names)
        names = {'a': 3}
        self.assertEqual(done.worth(read_worth('a + f(a + 1) - 1'), names), 10)
        self.assertEqual(done.call(read_worth('f(5)'), names), 10)
        self.assertEqual(done.call(read_worth('g()'), names), 0)
        self.assertEqual((names, done.names, done.said, done.left, done.deep), ({'a': 3}, {}, [4, 5], 9, 0))
        for text in ('h()', 'f()', 'f(1, 2)', 'f(b)', 'g(1)'):
            with self.subTest(text=text), self.assertRaises(BadRun):
                done.call(read_worth(text), names)
        self.assertEqual((names, done.names, done.said, done.deep), ({'a': 3}, {}, [4, 5], 0))
        done.deep = 40
        left = done.left
        with self.assertRaises(BadRun):
            done.call(read_worth('g()'), names)
        self.assertEqual((done.left, done.deep), (left, 40))
        with self.assertRaises(BadRun):
            done.worth(('name', 'b'), names)

    def test_how_deep_it_is_behind_a_failing_call(self):
        rows = read('def f(n) { if n { give f(n - 1); } give a; }')
        done = Run(rows)
        done.carry(rows, done.names)
        for count in (0, 5, 39, 45):
            with self.assertRaises(BadRun):
                done.worth(read_worth(f'f({count})'), {})
            self.assertEqual(done.deep, 0)

    def test_deeds(self):
        for deed, one, other, found in (
                ('==', 2, 2, 1), ('==', 2, 3, 0), ('==', -2, 2, 0), ('<', 2, 3, 1), ('<', 3, 3, 0), ('<', 3, 2, 0),
                ('<', -3, 2, 1), ('+', 2, 3, 5), ('+', 2, -3, -1), ('-', 2, 3, -1), ('*', 2, 3, 6), ('*', -2, 3, -6),
                ('+', MOST - 2, 1, MOST - 1), ('-', 2 - MOST, 1, 1 - MOST), ('==', MOST, MOST, 1),
                ('<', -MOST, MOST, 1)):
            with self.subTest(deed=deed, one=one, other=other):
                self.assertEqual(by_deed(deed, one, other), found)
                self.assertIs(type(by_deed(deed, one, other)), int)
        for deed, one, other in (('+', MOST - 1, 1), ('-', 1 - MOST, 1), ('*', 10 ** 15, 10 ** 15), ('*', MOST, -1),
                                 ('+', MOST, 0), ('-', -1, MOST)):
            with self.subTest(deed=deed, one=one, other=other), self.assertRaises(BadRun):
                by_deed(deed, one, other)

    def test_values_over_names(self):
        names = {'a': 3, 'b': -2}
        for text, found in (('a', 3), ('b', -2), ('-a', -3), ('a * b - 1', -7), ('a < b', 0), ('12', 12)):
            self.assertEqual(value_of(read_worth(text), names), found)
        self.assertEqual(names, {'a': 3, 'b': -2})
        for text in ('c', 'a + c', 'f()', 'f(a)', 'a + f(b)', '-f()', f'a * {MOST}'):
            with self.subTest(text=text), self.assertRaises(BadRun):
                value_of(read_worth(text), names)
        long = ('num', 0)
        for _ in range(3000):
            long = ('op', '+', long, ('num', 1))
        self.assertEqual(value_of(long, {}), 3000)

    def test_values_as_the_test_tells_them(self):
        for seed in range(300):
            tree = Maker(seed).worth(3)
            rows = (('set', 'a', ('num', 3)), ('set', 'b', ('neg', ('num', 2))), ('say', tree))
            numbers, stopped, _, _ = carried_out(rows)
            try:
                self.assertEqual((value_of(tree, {'a': 3, 'b': -2}),), numbers)
            except BadRun:
                self.assertTrue(stopped)


if __name__ == '__main__':
    unittest.main()
