"""Points 3 and 4: what steps, worths and programs are, and the trees and ways of them."""

import unittest

from helper import (BARE_CALL, BARE_DEF, BARE_IF, BARE_WHILE, CALL, DEEP, DEF, GIVE, IF, IF_ALONE, NAMED, ONE,
                    OUTER_STEPS, PROGRAM, SAY, SET, TWO, WHILE, WORTHS, tuples_throughout)
from neatwright.errors import BadTree, NoSuch
from neatwright.trees import (DEEDS, all_steps, all_ways, all_worths, are_steps, at_way, blocks_of, calls_in,
                              check_program, inner_def, inner_worths, is_step, is_worth, mapped, names_in, put_at,
                              size, with_blocks, with_inner, with_worths, worths_of)

# What is no tree at all, and trees with another first word, count of parts, or part.
NO_TREES = ((), 'a', '', 1, None, (1,), ('',), ((),), [], ['num', 1], ('num',), ('say',), ('nothing', ONE),
            ('let', 'a', ONE), ('fed', 'f', (), ()), ('unless', ONE, (), ()), ('Say', ONE), ('for', ONE, ()),
            ('op', '+'), (SAY,), (ONE,))
NO_WORTHS = NO_TREES + (
    ('num', 1, 2), ('num', -1), ('num', '1'), ('num', True), ('num', None), ('num', ONE), ('Num', 1),
    ('name',), ('name', 'a', 'b'), ('name', 'if'), ('name', ''), ('name', 'A'), ('name', '_a'), ('name', '1a'),
    ('name', 1), ('name', NAMED), ('op', '+', ONE), ('op', '+', ONE, ONE, ONE), ('op', '/', ONE, ONE),
    ('op', '=', ONE, ONE), ('op', '', ONE, ONE), ('op', None, ONE, ONE), ('op', '+', ONE, 1), ('op', '+', 'a', ONE),
    ('op', '+', (), ONE), ('op', '+', ONE, SAY), ('neg',), ('neg', ONE, ONE), ('neg', 1), ('neg', '1'), ('neg', SET),
    ('call', 'f'), ('call', 'f', (), ()), ('call', 'give', ()), ('call', 'F', ()), ('call', 1, ()), ('call', 'f', ONE),
    ('call', 'f', (1,)), ('call', 'f', (ONE, SAY)), ('call', 'f', ('a',)), ('call', 'f', 'a'), ('call', 'f', ''),
    ('call', 'f', [ONE]), ('call', 'f', None), SAY, SET, IF, DEF)
# None of these is a step, be it inside a def or outside.
NO_STEPS = NO_TREES + WORTHS + (
    ('set', 'a'), ('set', 'a', ONE, ONE), ('set', 'say', ONE), ('set', 'A', ONE), ('set', 1, ONE), ('set', NAMED, ONE),
    ('set', 'a', 1), ('set', 'a', SAY), ('set', 'a', 'b'), ('say', ONE, ONE), ('say', 1), ('say', 'a'), ('say', SAY),
    ('say', ('num', -1)), ('give',), ('give', ONE, ONE), ('give', 'a'), ('give', SAY), ('if', ONE),
    ('if', ONE, ()), ('if', ONE, (), (), ()), ('if', 'a', (), ()), ('if', SAY, (), ()), ('if', ONE, SAY, ()),
    ('if', ONE, (), SAY), ('if', ONE, (ONE,), ()), ('if', ONE, (), (ONE,)), ('if', ONE, (1,), ()),
    ('if', ONE, [SAY], ()), ('if', ONE, (), [SAY]), ('if', ONE, None, ()), ('if', ONE, (), ''), ('while', ONE),
    ('while', ONE, (), ()), ('while', 1, ()), ('while', SAY, ()), ('while', ONE, SAY), ('while', ONE, (TWO,)),
    ('while', ONE, [SAY]), ('while', ONE, ''), ('while', ONE, (('while', ONE, (('say', 1),)),)),
    ('def', 'f', ()), ('def', 'f', (), (), ()), ('def', 'say', (), ()), ('def', 1, (), ()), ('def', 'f', ('if',), ()),
    ('def', 'f', ('x', 'x'), ()), ('def', 'f', ('x', 'y', 'x'), ()), ('def', 'f', (1,), ()), ('def', 'f', 'x', ()),
    ('def', 'f', ['x'], ()), ('def', 'f', None, ()), ('def', 'f', (NAMED,), ()), ('def', 'f', (), SAY),
    ('def', 'f', (), [SAY]), ('def', 'f', (), (ONE,)), ('def', 'f', (), 'a'),
    # Defs stand in the outermost row alone.
    ('if', ONE, (BARE_DEF,), ()), ('if', ONE, (), (SAY, BARE_DEF)), ('while', ONE, (BARE_DEF,)),
    ('def', 'f', (), (BARE_DEF,)), ('def', 'f', (), (('if', ONE, (), (BARE_DEF,)),)),
    ('while', ONE, (('if', ONE, (), (BARE_DEF,)),)))

# The ways of PROGRAM by hand, and the step at each.
WAYS = (
    ((0,), SAY),
    ((1,), DEF),
    ((1, 0, 0), WHILE),
    ((1, 0, 0, 0, 0), IF),
    ((1, 0, 0, 0, 0, 0, 0), SAY),
    ((1, 0, 0, 0, 0, 0, 1), BARE_WHILE),
    ((1, 0, 0, 0, 0, 1, 0), ('if', TWO, (SET,), (SAY, SAY))),
    ((1, 0, 0, 0, 0, 1, 0, 0, 0), SET),
    ((1, 0, 0, 0, 0, 1, 0, 1, 0), SAY),
    ((1, 0, 0, 0, 0, 1, 0, 1, 1), SAY),
    ((1, 0, 0, 0, 1), SAY),
    ((1, 0, 0, 0, 2), IF_ALONE),
    ((1, 0, 0, 0, 2, 0, 0), SET),
    ((1, 0, 1), ('if', ONE, (GIVE,), (SET, ('while', TWO, (GIVE,))))),
    ((1, 0, 1, 0, 0), GIVE),
    ((1, 0, 1, 1, 0), SET),
    ((1, 0, 1, 1, 1), ('while', TWO, (GIVE,))),
    ((1, 0, 1, 1, 1, 0, 0), GIVE),
    ((1, 0, 2), GIVE),
    ((2,), IF),
    ((2, 0, 0), SAY),
    ((2, 0, 1), BARE_WHILE),
    ((2, 1, 0), ('if', TWO, (SET,), (SAY, SAY))),
    ((2, 1, 0, 0, 0), SET),
    ((2, 1, 0, 1, 0), SAY),
    ((2, 1, 0, 1, 1), SAY),
    ((3,), BARE_DEF),
    ((4,), WHILE),
    ((4, 0, 0), IF),
    ((4, 0, 0, 0, 0), SAY),
    ((4, 0, 0, 0, 1), BARE_WHILE),
    ((4, 0, 0, 1, 0), ('if', TWO, (SET,), (SAY, SAY))),
    ((4, 0, 0, 1, 0, 0, 0), SET),
    ((4, 0, 0, 1, 0, 1, 0), SAY),
    ((4, 0, 0, 1, 0, 1, 1), SAY),
    ((4, 0, 1), SAY),
    ((4, 0, 2), IF_ALONE),
    ((4, 0, 2, 0, 0), SET),
    ((5,), SET))
NO_WAYS = ((), (6,), (-1,), (0, 0), (1, 0), (1, 0, 0, 0), (0, 0, 0), (1, 1, 0), (1, -1, 0), (1, 0, 3), (1, 0, -1),
           (2, 2, 0), (2, 0, 2), (2, 1, 1), (2, 1), (2, -1, 0), (3, 0, 0), (4, 1, 0), (4, 0, 0, 2, 0), (4, 0, 1, 0, 0),
           (4, 0, 2, 1, 0), (5, 0, 0), (1, 0, 0, 0, 0, 0, 0, 0), (1, 0, 0, 0, 0, 0, 0, 0, 0))


def as_lists(rows):
    """Return steps whose rows are lists, so that a step can be exchanged in place: (step, lists of its blocks)."""
    blocks = {'if': 2, 'while': 2, 'def': 3}
    return [[row, [as_lists(lot) for lot in row[blocks[row[0]]:]] if row[0] in blocks else []] for row in rows]


def as_tuples(lists):
    return tuple([row[:len(row) - len(lots)] + tuple([as_tuples(lot) for lot in lots]) for row, lots in lists])


class Worths(unittest.TestCase):

    def test_each_kind_is_a_worth(self):
        for tree in WORTHS + tuple(('op', deed, ONE, NAMED) for deed in DEEDS):
            with self.subTest(tree):
                self.assertIs(is_worth(tree), True)

    def test_what_is_no_worth(self):
        for tree in NO_WORTHS:
            with self.subTest(tree):
                self.assertIs(is_worth(tree), False)

    def test_what_is_no_worth_makes_none_of_what_it_stands_in(self):
        for tree in NO_WORTHS:
            for outer in (('neg', tree), ('op', '+', tree, ONE), ('op', '*', ONE, tree), ('call', 'f', (ONE, tree)),
                          ('neg', ('neg', ('call', 'f', (tree,))))):
                with self.subTest(outer):
                    self.assertIs(is_worth(outer), False)

    def test_a_long_chain_of_deeds_is_a_worth(self):
        tree = ONE
        for _ in range(400):
            tree = ('op', '+', tree, NAMED)
        self.assertIs(is_worth(tree), True)
        self.assertEqual(size(tree), 801)
        self.assertIs(is_step(('say', ('op', '-', ONE, tree)), False), True)


class Steps(unittest.TestCase):

    def test_each_kind_is_a_step(self):
        for step in OUTER_STEPS:
            for inside in (False, True):
                with self.subTest(step, inside=inside):
                    self.assertIs(is_step(step, inside), True)

    def test_a_give_stands_inside_a_def_alone(self):
        for step in (GIVE, ('if', ONE, (GIVE,), ()), ('if', ONE, (), (SAY, GIVE)), ('while', ONE, (GIVE,)),
                     ('while', ONE, (('if', ONE, (), (GIVE,)),))):
            with self.subTest(step):
                self.assertIs(is_step(step, True), True)
                self.assertIs(is_step(step, False), False)
                self.assertIs(is_step(('def', 'f', (), (step,)), False), True)

    def test_a_def_stands_outside_alone(self):
        for step in (DEF, BARE_DEF, ('def', 'a', ('a', 'f'), ())):
            with self.subTest(step):
                self.assertIs(is_step(step, False), True)
                self.assertIs(is_step(step, True), False)

    def test_what_is_no_step(self):
        for tree in NO_STEPS:
            for inside in (False, True):
                with self.subTest(tree, inside=inside):
                    self.assertIs(is_step(tree, inside), False)

    def test_what_is_no_worth_makes_no_step(self):
        for tree in NO_WORTHS:
            for step in (('set', 'a', tree), ('say', tree), ('give', tree), ('if', tree, (), ()), ('while', tree, ())):
                with self.subTest(step):
                    self.assertIs(is_step(step, True), False)

    def test_what_is_no_step_makes_none_of_what_it_stands_in(self):
        for tree in NO_STEPS + (DEF,):
            for step in (('if', ONE, (SAY, tree), ()), ('if', ONE, (), (tree,)), ('while', ONE, (tree, SAY)),
                         ('def', 'f', (), (tree,)), ('while', ONE, (('if', ONE, (), (tree,)),))):
                with self.subTest(step):
                    self.assertIs(is_step(step, False), False)

    def test_rows_of_steps(self):
        self.assertIs(are_steps((), False), True)
        self.assertIs(are_steps(PROGRAM, False), True)
        self.assertIs(are_steps(list(PROGRAM), False), True)
        self.assertIs(are_steps((SAY, GIVE), True), True)
        self.assertIs(are_steps((SAY, GIVE), False), False)
        self.assertIs(are_steps((SAY, DEF), True), False)
        # The same def's name twice is the program's matter, not the rows'.
        self.assertIs(are_steps((DEF, DEF), False), True)

    def test_rows_that_are_no_steps(self):
        for tree in NO_STEPS:
            with self.subTest(tree):
                self.assertIs(are_steps((SAY, tree), False), False)
                self.assertIs(are_steps((tree, SAY), True), False)
        for rows in (SAY, 'a', 'ab', None, 1):
            with self.subTest(rows):
                self.assertIs(are_steps(rows, False), False)

    def test_ifs_in_ifs_many_deep(self):
        row = SAY
        for _ in range(200):
            row = ('if', ONE, (), (row,))
        self.assertIs(is_step(row, False), True)
        self.assertEqual(check_program((row,)), (row,))
        self.assertEqual(len(all_ways((row,))), 201)
        self.assertEqual(mapped((row,), lambda tree: tree), (row,))


class Programs(unittest.TestCase):

    def test_programs_are_returned(self):
        two_defs = (('def', 'f', (), (GIVE,)), ('def', 'h') + DEF[2:])
        for rows in ((), PROGRAM, (BARE_DEF,), (SAY,), OUTER_STEPS, two_defs):
            with self.subTest(rows):
                self.assertEqual(check_program(rows), rows)
                self.assertTrue(tuples_throughout(check_program(rows)))

    def test_a_list_of_steps_is_returned_as_a_program(self):
        rows = list(PROGRAM)
        self.assertEqual(check_program(rows), PROGRAM)
        self.assertEqual(rows, list(PROGRAM))

    def test_what_is_no_program(self):
        for tree in NO_STEPS + (GIVE, ('if', ONE, (GIVE,), ())):
            for rows in ((tree,), (SAY, tree, SAY)):
                with self.subTest(rows), self.assertRaises(BadTree):
                    check_program(rows)
        for rows in (SAY, 'a', None, 1):
            with self.subTest(rows), self.assertRaises(BadTree):
                check_program(rows)

    def test_a_def_twice(self):
        for rows in ((DEF, DEF), (DEF, SAY, ('def', 'f', (), ())), (BARE_DEF, DEF, BARE_DEF)):
            with self.subTest(rows), self.assertRaises(BadTree):
                check_program(rows)

    def test_a_defs_name_may_be_a_names_too(self):
        rows = (('def', 'a', ('a',), (('set', 'a', NAMED),)), ('set', 'a', ('call', 'a', (ONE,))))
        self.assertEqual(check_program(rows), rows)

    def test_a_def_within_a_step(self):
        for row in (('if', ONE, (BARE_DEF,), ()), ('if', ONE, (), (SAY, BARE_DEF)), ('while', ONE, (SAY, BARE_DEF)),
                    ('def', 'f', (), (BARE_DEF,)), ('def', 'f', (), (('while', ONE, (('if', ONE, (), (DEF,)),)),))):
            with self.subTest(row):
                self.assertIs(inner_def(row), True)
                with self.assertRaises(BadTree):
                    check_program((row,))

    def test_a_def_is_not_within_itself(self):
        for row in PROGRAM + OUTER_STEPS + (GIVE,):
            with self.subTest(row):
                self.assertIs(inner_def(row), False)


class Parts(unittest.TestCase):

    def test_blocks(self):
        for row, lots in ((SET, ()), (SAY, ()), (GIVE, ()), (BARE_IF, ((), ())), (IF_ALONE, ((SET,), ())),
                          (IF, (IF[2], IF[3])), (BARE_WHILE, ((),)), (WHILE, (WHILE[2],)), (BARE_DEF, ((),)),
                          (DEF, (DEF[3],))):
            with self.subTest(row):
                self.assertEqual(blocks_of(row), lots)
                self.assertEqual(with_blocks(row, lots), row)

    def test_other_blocks(self):
        lots = ((SAY, SET), (SET,))
        for given in (lots, list(lots), [list(lot) for lot in lots]):
            self.assertEqual(with_blocks(IF, given), ('if', IF[1]) + lots)
        self.assertEqual(with_blocks(IF, ((), ())), ('if', IF[1], (), ()))
        self.assertEqual(with_blocks(WHILE, [[SAY]]), ('while', CALL, (SAY,)))
        self.assertEqual(with_blocks(DEF, ((SAY,),)), ('def', 'f', ('x', 'y'), (SAY,)))
        for row in (SET, SAY, GIVE):
            self.assertEqual(with_blocks(row, ()), row)

    def test_worths_of_steps(self):
        for row, worths in ((SET, (DEEP,)), (SAY, (NAMED,)), (GIVE, (CALL,)), (IF, (IF[1],)), (WHILE, (CALL,)),
                            (DEF, ()), (BARE_DEF, ())):
            with self.subTest(row):
                self.assertEqual(worths_of(row), worths)
                self.assertEqual(with_worths(row, worths), row)
                self.assertEqual(with_worths(row, list(worths)), row)

    def test_other_worths_of_steps(self):
        self.assertEqual(with_worths(SET, (TWO,)), ('set', 'a', TWO))
        self.assertEqual(with_worths(SAY, [TWO]), ('say', TWO))
        self.assertEqual(with_worths(GIVE, (TWO,)), ('give', TWO))
        self.assertEqual(with_worths(IF, (TWO,)), ('if', TWO, IF[2], IF[3]))
        self.assertEqual(with_worths(WHILE, (TWO,)), ('while', TWO, WHILE[2]))

    def test_worths_within_worths(self):
        for tree, worths in ((ONE, ()), (NAMED, ()), (DEEP, DEEP[2:]), (('neg', CALL), (CALL,)), (BARE_CALL, ()),
                             (CALL, CALL[2])):
            with self.subTest(tree):
                self.assertEqual(inner_worths(tree), worths)
                self.assertEqual(with_inner(tree, worths), tree)
                self.assertEqual(with_inner(tree, list(worths)), tree)

    def test_other_worths_within_worths(self):
        self.assertEqual(with_inner(DEEP, (ONE, TWO)), ('op', '+', ONE, TWO))
        self.assertEqual(with_inner(('neg', ONE), [TWO]), ('neg', TWO))
        self.assertEqual(with_inner(CALL, [ONE, TWO, NAMED]), ('call', 'f', (ONE, TWO, NAMED)))

    def test_what_is_told_are_tuples(self):
        found = [blocks_of(DEF), with_blocks(IF, [[SAY], []]), worths_of(SET), with_worths(SET, [ONE]),
                 inner_worths(CALL), with_inner(CALL, [ONE, TWO, ONE]), names_in(DEEP), calls_in(DEEP),
                 mapped(list(PROGRAM), lambda tree: tree), put_at(list(PROGRAM), [1, 0, 0], [SAY]),
                 at_way(PROGRAM, [1])]
        for value in found:
            self.assertTrue(isinstance(value, tuple) and tuples_throughout(value), value)


class Throughout(unittest.TestCase):

    def test_all_worths(self):
        self.assertEqual(all_worths(ONE), [ONE])
        self.assertEqual(all_worths(BARE_CALL), [BARE_CALL])
        self.assertEqual(all_worths(DEEP), [
            DEEP, DEEP[2], NAMED, CALL, ('name', 'c'), BARE_CALL, ('neg', ('name', 'b')), ('name', 'b'),
            DEEP[3], DEEP[3][1], ('name', 'b'), ('num', 0)])

    def test_size(self):
        for tree, count in ((ONE, 1), (NAMED, 1), (BARE_CALL, 1), (('neg', ONE), 2), (CALL, 5), (DEEP, 12)):
            self.assertEqual(size(tree), count)

    def test_all_steps(self):
        self.assertEqual(all_steps(()), [])
        self.assertEqual(all_steps(PROGRAM), [step for _, step in WAYS])
        self.assertEqual(all_steps(list(PROGRAM)), [step for _, step in WAYS])

    def test_names_stand_by_their_letters_each_once(self):
        self.assertEqual(names_in(DEEP), ('a', 'b', 'c'))
        self.assertEqual(names_in(ONE), ())
        self.assertEqual(names_in(BARE_CALL), ())
        row = ('z', 'a_', 'a', 'aa', 'a1', 'z', 'b')
        self.assertEqual(names_in(('call', 'f', tuple(('name', name) for name in row))),
                         ('a', 'a1', 'a_', 'aa', 'b', 'z'))

    def test_calls_stand_by_their_letters_each_once(self):
        self.assertEqual(calls_in(DEEP), ('f',))
        self.assertEqual(calls_in(('name', 'f')), ())
        tree = ('call', 'z', (BARE_CALL, ('neg', ('call', 'a', (BARE_CALL,))), ('name', 'q')))
        self.assertEqual(calls_in(tree), ('a', 'f', 'z'))

    def test_mapped_goes_to_each_outermost_worth(self):
        seen = []

        def deed(tree):
            seen.append(tree)
            return ('neg', tree)

        rows = (SAY, ('def', 'f', ('x',), (GIVE, ('if', ONE, (SET,), (('while', TWO, (SAY,)),)))), BARE_IF)
        self.assertEqual(mapped(rows, deed), (
            ('say', ('neg', NAMED)),
            ('def', 'f', ('x',), (('give', ('neg', CALL)),
                                  ('if', ('neg', ONE), (('set', 'a', ('neg', DEEP)),),
                                   (('while', ('neg', TWO), (('say', ('neg', NAMED)),)),)))),
            ('if', ('neg', ONE), (), ())))
        self.assertEqual(seen, [NAMED, CALL, ONE, DEEP, TWO, NAMED, ONE])
        self.assertEqual(mapped((), deed), ())
        self.assertEqual(mapped((BARE_DEF,), deed), (BARE_DEF,))


class Ways(unittest.TestCase):

    def test_all_ways_of_a_program(self):
        self.assertEqual(all_ways(PROGRAM), [way for way, _ in WAYS])
        self.assertEqual(all_ways(()), [])
        self.assertEqual(all_ways((BARE_IF, BARE_DEF)), [(0,), (1,)])

    def test_ways_behind_a_head(self):
        for head in ((3, 1), [3, 1]):
            self.assertEqual(all_ways(PROGRAM, head), [(3, 1) + way for way, _ in WAYS])
        self.assertEqual(all_ways((SAY,), head=(0, 0)), [(0, 0, 0)])

    def test_the_step_at_each_way(self):
        for way, step in WAYS:
            with self.subTest(way):
                self.assertEqual(at_way(PROGRAM, way), step)
                self.assertEqual(at_way(list(PROGRAM), list(way)), step)

    def test_put_at_each_way(self):
        for way, _ in WAYS:
            for steps in ((), (BARE_IF,), (SAY, BARE_WHILE, SET)):
                with self.subTest(way, steps=steps):
                    lists = as_lists(PROGRAM)
                    here = lists
                    for place, block in zip(way[:-1:2], way[1::2]):
                        here = here[place][1][block]
                    here[way[-1]:way[-1] + 1] = as_lists(steps)
                    self.assertEqual(put_at(PROGRAM, way, steps), as_tuples(lists))

    def test_put_at_the_same_step_changes_nothing(self):
        for way, step in WAYS:
            self.assertEqual(put_at(PROGRAM, way, (step,)), PROGRAM)

    def test_a_way_that_is_not_there(self):
        for way in NO_WAYS:
            for rows in (PROGRAM, list(PROGRAM)):
                with self.subTest(way):
                    with self.assertRaises(NoSuch):
                        at_way(rows, way)
                    with self.assertRaises(NoSuch):
                        put_at(rows, way, (SAY,))
                    self.assertEqual(tuple(rows), PROGRAM)

    def test_a_bare_program_has_no_way(self):
        for way in ((), (0,), (0, 0, 0)):
            with self.subTest(way), self.assertRaises(NoSuch):
                at_way((), way)
            with self.subTest(way), self.assertRaises(NoSuch):
                put_at((), way, ())

    def test_bare_blocks_have_no_way(self):
        for way in ((0, 0, 0), (0, 1, 0), (1, 0, 0), (2, 0, 0)):
            with self.subTest(way), self.assertRaises(NoSuch):
                at_way((BARE_IF, BARE_WHILE, BARE_DEF), way)

    def test_what_is_handed_in_stays(self):
        rows, way, steps = list(PROGRAM), [1, 0, 0], [SAY]
        put_at(rows, way, steps)
        self.assertEqual((rows, way, steps), (list(PROGRAM), [1, 0, 0], [SAY]))


if __name__ == '__main__':
    unittest.main()
