"""Point 1, over the whole program: changes one behind the other, texts told neat by edits, and what is refused."""

import copy
import random
import unittest

from making import Maker, programs
from neatwright import (desks, diffs, edits, flows, folds, layouts, lints, matches, measures, moves, reads, renames, runs,
                        scopes, shapes, signs, trees)
from neatwright.desks import Desk
from neatwright.errors import (BadChange, BadLayout, BadPaper, BadRun, BadSign, BadSize, BadStore, BadTree, NeatFault,
                               NoSuch)
from neatwright.reads import read, read_worth, told_plain
from oracle import carried_out
from test_shapes import remarked

PROGRAM = read('def f(x, y) { z = x + y; give z; } a = 1; b = 2; if a < b { say f(1, 2); } else { say a + b * 2; } '
               'while a { a = a - 1; } say b;')
NOT_A_PROGRAM = (('give', ('num', 1)),)
HOLED = (read_worth('x'), read_worth('x'), ('x',))


def names_read(rows):
    """Return (scope, name) of all reads, each once, of names that nothing in their scope sets."""
    found = set()
    for scope in scopes.scopes_of(rows):
        steps = scopes.scope_rows(rows, scope)
        there = scopes.sets_in(steps) + scopes.params_of(rows, scope)
        found |= {(scope, name) for name in scopes.reads_in(steps) if name not in there}
    return found


# Each error, and calls that refuse by it: a deed and what is handed in, some with another reason behind it.
REFUSALS = {
    BadSign: (
        (signs.cut, ['say $;']), (signs.piece_at, ['a = 01;', 4]), (signs.words_of, ['A']), (signs.check_name, ['if']),
        (reads.read, ['say 1']), (reads.read, ['give 1; say']), (reads.read_worth, ['1 2']), (shapes.neat, ['say', 0]),
        (renames.renamed, [NOT_A_PROGRAM, 'none', 'none', '1']), (renames.renamed_def, [PROGRAM, 'none', 'A']),
        (moves.taken_out, [NOT_A_PROGRAM, (9,), (9,), 'if']), (Desk().do, ['a\nb']), (Desk().answer, ['none', ''])),
    BadTree: (
        (trees.check_program, [NOT_A_PROGRAM]), (reads.read, ['give 1;']), (runs.said, [NOT_A_PROGRAM]),
        (shapes.neat_rows, [NOT_A_PROGRAM]), (renames.renamed, [NOT_A_PROGRAM, 'none', 'a', 'b']),
        (renames.params_moved, [NOT_A_PROGRAM, 'f', (0,)]), (moves.put_in, [NOT_A_PROGRAM, 'none', 'a']),
        (moves.turned_if, [NOT_A_PROGRAM, (9,)]), (folds.folded, [NOT_A_PROGRAM]), (folds.is_folded, [NOT_A_PROGRAM]),
        (folds.check_folds, [NOT_A_PROGRAM, [('none', (9,))]]), (lints.lints, [NOT_A_PROGRAM]),
        (lints.without_uncalled, [NOT_A_PROGRAM]), (Desk().do, ['add give 1;'])),
    BadLayout: (
        (layouts.text, ['a\nb']), (layouts.laid, [layouts.group(layouts.line()), (0, 0)]),
        (layouts.check_best, [layouts.text('a'), 3, 'b'])),
    BadRun: (
        (runs.run, [read('say 1; say a;')]), (runs.run, [read('while 1 { }')]), (runs.value_of, [read_worth('f()'), {}]),
        (runs.by_deed, ['*', 10 ** 20, 10 ** 20]), (runs.steps_used, [read('say f();')])),
    BadChange: (
        (renames.renamed, [PROGRAM, '', 'a', 'b']), (renames.params_moved, [PROGRAM, 'f', (0, 0)]),
        (moves.taken_out, [PROGRAM, (4,), (9,), 'a']), (moves.put_in, [PROGRAM, '', 'a']),
        (moves.turned_if, [PROGRAM, (1,)]), (moves.exchanged, [PROGRAM, (3,)]),
        (edits.check_edits, ['abc', [(0, 2, ''), (1, 1, 'x')]]), (edits.applied, ['', [(0, 1, '')]]),
        (edits.place_behind, ['abc', [], 4]), (edits.both, ['abc', [(0, 1, 'x')], [(0, 2, 'y')]]),
        (matches.check_rule, list(HOLED)), (matches.by_rule, [read_worth('a'), *HOLED]),
        (matches.holds, [read_worth('f(x)'), read_worth('x'), ('x',), (1,)]),
        (matches.to_end, [read_worth('a + b'), [(read_worth('x + y'), read_worth('y + x'), ('x', 'y'))], 4])),
    BadPaper: (
        (folds.check_folds, [PROGRAM, [('worth', (0,))]]), (folds.check_folds, [PROGRAM, [('give', (1,))]]),
        (diffs.done, [['a'], [('-', 'b')]]), (diffs.done_hunks, [['a'], [(1, 0, [('+', 'b')])]]),
        (diffs.read_steps_told, [['']])),
    BadSize: (
        (runs.said, [NOT_A_PROGRAM, -1]), (layouts.cost, ['a', -1]), (layouts.nest, [-1, layouts.line()]),
        (shapes.neat_rows, [PROGRAM, 0]), (flows.all_paths, [PROGRAM, 4]), (diffs.hunks, [[(' ', 'a')], -1]),
        (measures.twice, [PROGRAM, 0]), (measures.runs_twice, [PROGRAM, 0]), (Desk().do, ['neat 0'])),
    BadStore: ((desks.lines_of, ['0 fold 1\n']), (desks.done_again, ['nothing\n'])),
    NoSuch: (
        (trees.at_way, [PROGRAM, (9,)]), (trees.put_at, [PROGRAM, (0, 1, 0), ()]), (scopes.scope_rows, [PROGRAM, 'a']),
        (scopes.counts_of, [PROGRAM, 'none']), (renames.renamed, [PROGRAM, '', 'z', 'b']),
        (renames.renamed_def, [PROGRAM, 'a', 'f']), (moves.taken_out, [PROGRAM, (9,), (), 'a']),
        (moves.put_in, [PROGRAM, 'f', 'x']), (folds.step_fold, [PROGRAM, (0, 0, 9)]),
        (flows.unsure_reads, [PROGRAM, 'none']), (flows.idle_sets, [PROGRAM, 'a']), (lints.unread_params, [PROGRAM, 'a']),
        (measures.scope_measures, [PROGRAM, 'b']), (Desk().do, ['back']), (Desk().do, ['names f'])),
}


class Refused(unittest.TestCase):

    def test_each_error_apart_with_nothing_changed(self):
        self.assertEqual(set(REFUSALS), set(NeatFault.__subclasses__()))
        for error, calls in REFUSALS.items():
            for deed, given in calls:
                with self.subTest(error=error, deed=deed):
                    before = copy.deepcopy(given)
                    with self.assertRaises(NeatFault) as caught:
                        deed(*given)
                    self.assertIs(type(caught.exception), error)
                    self.assertEqual(given, before)
                    desk = getattr(deed, '__self__', None)
                    if desk is not None:
                        self.assertEqual((desk.program, desk.ahead, desk.text, desk.many), ((), [], '', 0))


class Changed(unittest.TestCase):

    def changes_of(self, rows, chance):
        """Return programs that are rows behind one change each, by chance."""
        scope = chance.choice(scopes.scopes_of(rows))
        names = scopes.names_of(rows, scope) or ('none',)
        way = chance.choice(trees.all_ways(rows))
        worths = trees.worths_of(trees.at_way(rows, way))
        path = (0,) if worths != () and chance.randrange(2) == 0 else ()
        return (
            lambda: renames.renamed(rows, scope, chance.choice(names), chance.choice(('n1', 'n2', 'a', 'f'))),
            lambda: renames.renamed_def(rows, chance.choice(('f', 'g', 'd1')), chance.choice(('d1', 'd2', 'g', 'a'))),
            lambda: renames.params_moved(rows, chance.choice(('f', 'g')), chance.choice(((0,), (1, 0), (0, 1), ()))),
            lambda: moves.taken_out(rows, way, path, chance.choice(('t1', 't2', 't3', 'a'))),
            lambda: moves.put_in(rows, scope, chance.choice(names)),
            lambda: moves.turned_if(rows, way), lambda: moves.exchanged(rows, way),
            lambda: folds.folded(rows)[0], lambda: lints.without_uncalled(rows), lambda: read(shapes.neat_rows(rows, 30)))

    def test_up_to_four_changes_one_behind_the_other(self):
        chance = random.Random(91)
        made = {}
        refused = 0
        for rows in programs(220, 92):
            here, done = rows, []
            for _ in range(40):
                deeds = self.changes_of(here, chance)
                number = chance.randrange(len(deeds))
                before = copy.deepcopy(here)
                try:
                    found = deeds[number]()
                except (BadChange, NoSuch):
                    refused += 1
                    self.assertEqual(here, before)
                    continue
                if found == here:
                    continue
                self.assertEqual(trees.check_program(found), found)
                here, done = found, done + [number]
                made[number] = made.get(number, 0) + 1
                if len(done) == 4 or here == ():
                    break
            self.same_meaning(rows, here, done)
        # Each has been done, but for the last, which changes nothing.
        self.assertEqual(sorted(made), list(range(9)))
        self.assertGreater(refused, 500)

    def same_meaning(self, one, other, done):
        """Hold a program against what it was: changes take some steps more or fewer, but say and refuse alike."""
        words, stuck, _, used = carried_out(one, 300)
        if stuck and used == 300:
            # Out of steps: with more of them it goes on as it began.
            self.assertEqual(carried_out(other, 300 * 6)[0][:len(words)], words, done)
        else:
            self.assertEqual(carried_out(other, 300 * 6)[:2], (words, stuck), done)

    def test_no_read_of_an_unset_name_is_lost(self):
        kept = 0
        for rows in programs(120, 93):
            there = names_read(rows)
            for way in trees.all_ways(rows):
                if trees.at_way(rows, way)[0] == 'if':
                    self.assertEqual(names_read(moves.turned_if(rows, way)), there)
                    kept += len(there)
            # A fold leaves out a read only where none comes to it.
            found = folds.folded(rows)[0]
            for scope in scopes.scopes_of(found):
                self.assertLessEqual({name for _, name in flows.unsure_reads(found, scope)},
                                     {name for _, name in flows.unsure_reads(rows, scope)})
            words, stuck, _, used = carried_out(rows, 400)
            if stuck and used < 400:
                self.assertTrue(carried_out(found, 400)[1])
        self.assertGreater(kept, 20)

    def test_rules_that_hold_say_the_same(self):
        rules = [(read_worth(one), read_worth(other), ('x', 'y')) for one, other in (
            ('x + 0', 'x'), ('0 + x', 'x'), ('x * 1', 'x'), ('--x', 'x'), ('0 - x', '-x'), ('x == y == 0 == 0', 'x == y'))]
        numbers = (0, 1, -1, 5)
        some = 0
        for rule in rules:
            self.assertIsNone(matches.holds(*rule, numbers))
            for rows in programs(40, 94):
                found = matches.program_by_rule(rows, *rule)
                some += found != rows
                self.assertEqual(carried_out(found, 300)[:2], carried_out(rows, 300)[:2])
        self.assertGreater(some, 10)


class Told(unittest.TestCase):

    def test_texts_made_neat_by_edits_between_words_alone(self):
        between = 0
        for seed, rows in enumerate(programs(60, 95)):
            for text in (told_plain(rows), shapes.neat_rows(rows, 10, 2), ' \n'.join(told_plain(rows).split(' '))):
                behind = shapes.neat(text, 40)
                found = edits.word_edits(text, behind, signs.words_of)
                self.assertEqual(edits.applied(text, found), behind)
                self.assertEqual(edits.applied(behind, edits.backward(text, found)), text)
                if signs.same_words(text, behind):
                    self.assertTrue(all((text[start:end] + word).strip(' \n') == '' for start, end, word in found))
                    between += len(found) > 1
            # With remarks, too, the edits give the text back, and the remarks stay in order.
            text = remarked(rows, seed)
            behind = shapes.neat(text)
            found = edits.word_edits(text, behind, signs.words_of)
            self.assertEqual(edits.applied(behind, edits.backward(text, found)), text)
            self.assertEqual([one[1] for one in signs.remarks_of(behind)], [one[1] for one in signs.remarks_of(text)])
            self.assertTrue(shapes.is_neat(edits.applied(text, found)))
        self.assertGreater(between, 100)

    def test_texts_held_against_what_they_are_told_neat(self):
        for seed, rows in enumerate(programs(20, 96)):
            text = remarked(rows, seed).split('\n')
            behind = shapes.neat('\n'.join(text)).split('\n')
            steps = diffs.diff(text, behind)
            self.assertEqual(diffs.done(text, steps), tuple(behind))
            self.assertEqual(diffs.done(behind, diffs.undone(steps)), tuple(text))
            self.assertEqual(diffs.done_hunks(text, diffs.hunks(steps, 2)), tuple(behind))

    def measures_of(self, rows):
        return (measures.depth(rows), measures.branches(rows), measures.weight(rows), measures.kinds(rows),
                measures.deeds(rows), measures.widest(rows))

    def test_measures_stay(self):
        for rows in programs(80, 97):
            mine = self.measures_of(rows)
            self.assertEqual(self.measures_of(read(shapes.neat_rows(rows, 25))), mine)
            self.assertEqual(self.measures_of(renames.renamed_def(rows, 'f', 'new')), mine)
            for name in scopes.names_of(rows, ''):
                self.assertEqual(self.measures_of(renames.renamed(rows, '', name, 'new')), mine)
            for way in trees.all_ways(rows):
                if trees.at_way(rows, way)[0] == 'if':
                    once = moves.turned_if(rows, way)
                    self.assertEqual((measures.depth(once), measures.branches(once), measures.kinds(once)),
                                     (mine[0], mine[1], mine[3]))
                    twice = moves.turned_if(moves.turned_if(once, way), way)
                    self.assertEqual(self.measures_of(twice), self.measures_of(once))
            found = self.measures_of(folds.folded(rows)[0])
            for number in (0, 1, 2, 5):
                self.assertLessEqual(found[number], mine[number])
            for number in (3, 4):
                for word, count in found[number].items():
                    self.assertLessEqual(count, mine[number][word])

    def test_lines_said_at_a_desk_keep_to_what_is_promised(self):
        for seed in range(40):
            desk = Desk()
            rows = Maker(seed * 7).program()
            self.assertEqual(desk.say('add ' + told_plain(rows)), told_plain(rows))
            self.assertEqual(read('\n'.join(desk.say('neat 30').split('/'))), rows)
            before = desk.say('run')
            for line in ('fold', 'call f h', 'rename f a q', 'put - a', 'put - b', 'rename - c z'):
                desk.say(line)
                if not before.endswith('...'):
                    self.assertEqual(desk.say('run'), before)
            self.assertEqual(desks.done_again(desk.text).program, desk.program)


if __name__ == '__main__':
    unittest.main()
