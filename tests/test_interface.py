"""The interface: each name that has landed, with its arguments, in the file under which the document lists it."""

import importlib
import inspect
import unittest

FUNCTIONS = {
    'signs': {
        'cut': '(text)', 'piece_at': '(text, place)', 'run_on': '(text, place, signs)', 'joined': '(pieces)',
        'words_of': '(text)', 'remarks_of': '(text)', 'row_and_column': '(text, place)', 'is_name': '(word)',
        'check_name': '(word)', 'same_words': '(one, other)', 'without_gaps_at_ends': '(text)',
    },
    'trees': {
        'is_worth': '(tree)', 'is_step': '(tree, inside)', 'are_steps': '(rows, inside)', 'check_program': '(rows)',
        'inner_def': '(row)', 'blocks_of': '(row)', 'with_blocks': '(row, lots)', 'worths_of': '(row)',
        'with_worths': '(row, worths)', 'inner_worths': '(tree)', 'with_inner': '(tree, worths)',
        'all_worths': '(tree)', 'all_steps': '(rows)', 'names_in': '(tree)', 'calls_in': '(tree)',
        'mapped': '(rows, deed)', 'at_way': '(rows, way)', 'put_at': '(rows, way, steps)',
        'all_ways': '(rows, head=())', 'size': '(tree)',
    },
    'reads': {
        'read': '(text)', 'read_worth': '(text)', 'told_worth': '(tree)', 'told_from': '(tree, rank)',
        'told_plain': '(rows)', 'told_step': '(row)', 'told_block': '(rows)', 'is_text': '(text)',
    },
    'runs': {
        'by_deed': '(deed, one, other)', 'run': '(rows, most=1000)', 'said': '(rows, most=1000)',
        'says_same': '(one, other, most=1000)', 'steps_used': '(rows, most=1000)', 'value_of': '(tree, names)',
    },
    'layouts': {
        'text': '(word)', 'line': "(flat=' ')", 'in_turn': '(pieces)', 'nest': '(count, piece)', 'group': '(piece)',
        'groups_in': '(piece)', 'flat_text': '(piece)', 'ways': '(piece, flat=False)', 'laid': '(piece, way)',
        'lay': '(piece, inward, flat, way)', 'cost': '(words, width)', 'best_way': '(piece, width, start=0)',
        'spread': '(piece, inward, flat, states, width)', 'marked': '(states, more)',
        'shifted': '(states, count, width)', 'best': '(piece, width)', 'check_best': '(piece, width, words)',
    },
    'shapes': {
        'worth_piece': '(tree, rank, inward)', 'head_piece': '(step, inward)',
        'neat_rows': '(rows, width=60, inward=4)', 'neat': '(words, width=60, inward=4)', 'slots_of': '(words)',
        'may_hold': '(slot, ahead, alone, table)', 'is_neat': '(words, width=60, inward=4)',
    },
    'scopes': {
        'defs_of': '(rows)', 'scope_rows': '(rows, scope)', 'params_of': '(rows, scope)', 'scopes_of': '(rows)',
        'sets_in': '(rows)', 'reads_in': '(rows)', 'names_of': '(rows, scope)', 'counts_of': '(rows, scope)',
        'calls_of': '(rows, scope)', 'reached': '(rows, scope)', 'rings': '(rows)', 'unmade': '(rows)',
        'fresh_name': '(rows, scope, base)',
    },
    'renames': {
        'renamed': '(rows, scope, old, new)', 'in_steps': '(rows, old, new)', 'set_otherwise': '(row, old, new)',
        'in_worth': '(tree, old, new)', 'renamed_def': '(rows, old, new)', 'call_otherwise': '(tree, old, new)',
        'all_calls': '(rows)', 'mark_calls': '(tree, found)', 'params_moved': '(rows, name, order)',
        'call_moved': '(tree, name, order)', 'is_quiet': '(tree)', 'all_renames': '(rows, scope)',
    },
    'moves': {
        'scope_of': '(rows, way)', 'worth_at': '(tree, path)', 'put_worth': '(tree, path, new)',
        'taken_out': '(rows, way, path, name)', 'put_in': '(rows, scope, name)',
        'read_steps': '(steps, name, worth)', 'is_sure': '(tree)', 'surely_set': '(rows, scope, place)',
        'read_otherwise': '(tree, name, worth)', 'turned_if': '(rows, way)', 'turned_test': '(tree)',
        'is_test': '(tree)', 'exchanged': '(rows, way)', 'all_small': '(tree)', 'blocks_below': '(rows, way)',
    },
    'folds': {
        'folded_worth': '(tree)', 'is_number': '(tree)', 'number_of': '(tree)', 'number_tree': '(value)',
        'step_fold': '(rows, way)', 'is_free': '(tree)', 'behind_give': '(rows)', 'ends': '(step)',
        'next_fold': '(rows)', 'folded': '(rows)', 'check_folds': '(rows, reasons)', 'is_folded': '(rows)',
    },
    'flows': {
        'unsure_reads': '(rows, scope)', 'surely_set_behind': '(rows, scope)', 'read_behind': '(rows, names)',
        'read_ahead_of': '(row, behind)', 'idle_sets': '(rows, scope)', 'idle_in': '(rows, behind, head, found)',
        'unreached': '(rows)', 'all_paths': '(rows, rounds)', 'step_paths': '(row, rounds)',
    },
    'lints': {
        'lints': '(rows)', 'place_key': '(place)', 'unread_params': '(rows, scope)', 'step_slips': '(rows, step)',
        'counts': '(rows)', 'without_uncalled': '(rows)', 'is_clean': '(rows)', 'callers': '(rows, name)',
    },
    'diffs': {
        'common_table': '(one, other)', 'diff': '(one, other)', 'changes': '(steps)', 'done': '(rows, steps)',
        'undone': '(steps)', 'hunks': '(steps, near)', 'done_hunks': '(rows, lots)', 'told': '(steps)',
        'read_steps_told': '(rows)', 'merged': '(base, one, other)', 'kept_by_both': '(base, one, other)',
        'kept_places': '(base, rows)',
    },
    'edits': {
        'check_edits': '(text, edits)', 'applied': '(text, edits)', 'backward': '(text, edits)',
        'place_behind': '(text, edits, place)', 'smallest': '(one, other)', 'both': '(text, one, other)',
        'behind_each_other': '(text, one, other)', 'word_edits': '(old, new, cut)', 'size_behind': '(text, edits)',
    },
    'matches': {
        'matched': '(pattern, tree, holes)', 'fit': '(pattern, tree, holes, found)', 'filled': '(pattern, table)',
        'check_rule': '(pattern, result, holes)', 'by_rule': '(tree, pattern, result, holes)',
        'changed': '(tree, pattern, result, holes)', 'program_by_rule': '(rows, pattern, result, holes)',
        'places_in': '(tree, pattern, holes)', 'holds': '(pattern, result, holes, numbers)',
        'tables_of': '(names, numbers)', 'worth_or_none': '(tree, table)', 'to_end': '(tree, rules, most)',
        'lessens': '(pattern, result, holes)', 'often': '(tree, name)', 'all_matches': '(rows, pattern, holes)',
    },
    'measures': {
        'depth': '(rows)', 'branches': '(rows)', 'weight': '(rows)', 'kinds': '(rows)', 'deeds': '(rows)',
        'twice': '(rows, least)', 'runs_twice': '(rows, count)', 'all_lots': '(rows)', 'widest': '(rows)',
        'scope_measures': '(rows, scope)', 'row_widths': '(text)',
    },
    'desks': {'figure_of': '(text)', 'lines_of': '(text)', 'done_again': '(text)'},
}
CLASSES = {
    'errors': ('NeatFault', 'BadSign', 'BadTree', 'BadLayout', 'BadRun', 'BadChange', 'BadPaper', 'BadSize',
               'BadStore', 'NoSuch'),
    'reads': ('Reader',), 'runs': ('Run',), 'shapes': ('Shaper', 'Slots'),
    'flows': ('Flow',), 'desks': ('Desk',),
}
# The methods of each class with their arguments; the first is what an object is made of.
METHODS = {
    ('reads', 'Reader'): {
        '__init__': '(self, words)', 'peek': '(self)', 'kind': '(self)', 'take': '(self, word)', 'name': '(self)',
        'read_block': '(self)', 'read_step': '(self)', 'step_itself': '(self)', 'follow': '(self)',
        'params': '(self)', 'worth': '(self, rank)', 'single': '(self)',
    },
    ('runs', 'Run'): {
        '__init__': '(self, rows, most=1000)', 'spend': '(self)', 'carry': '(self, rows, names)',
        'branch': '(self, row, names)', 'worth': '(self, tree, names)', 'call': '(self, tree, names)',
    },
    ('shapes', 'Shaper'): {
        '__init__': '(self, width, inward, remarks)', 'put': '(self, words, deep)', 'notes': '(self, slot, deep)',
        'head': '(self, piece, deep)', 'put_steps': '(self, steps, deep)', 'one': '(self, step, deep, ahead)',
        'is_chained': '(self, steps)', 'inside': '(self, steps, deep)',
    },
    ('shapes', 'Slots'): {
        '__init__': '(self, rows, reader)', 'slot_steps': '(self, rows)', 'inside': '(self, rows)',
    },
    ('flows', 'Flow'): {
        '__init__': '(self, rows, names)', 'go': '(self, rows, names, head)', 'reads': '(self, row, names, way)',
        'behind_step': '(self, row, names, way)',
    },
    ('desks', 'Desk'): {
        '__init__': '(self)', 'say': '(self, line)', 'do': '(self, line)', 'scope': '(self, word)',
        'let': '(self, program, line)', 'answer': '(self, head, rest)',
    },
}
CONSTANTS = {
    'signs': {
        'SMALL': 'abcdefghijklmnopqrstuvwxyz', 'FIGURES': '0123456789',
        'KEYS': ('say', 'if', 'else', 'while', 'def', 'give'),
        'MARKS': ('==', '=', '<', '+', '-', '*', '(', ')', '{', '}', ',', ';'),
    },
    'trees': {'DEEDS': ('==', '<', '+', '-', '*')},
    'reads': {'RANK': {'==': 1, '<': 1, '+': 2, '-': 2, '*': 3}},
    'runs': {'MOST': 10 ** 30},
    'lints': {'KINDS': ('unset', 'idle', 'unread', 'uncalled', 'no def', 'count', 'fixed test', 'same', 'unreached',
                        'self')},
    'desks': {'BASE': 9973, 'WIDE': 2000003},
}


def module_of(name):
    return importlib.import_module('neatwright.' + name)


class Interface(unittest.TestCase):

    def test_functions_have_the_listed_arguments(self):
        for file, functions in FUNCTIONS.items():
            for name, arguments in functions.items():
                with self.subTest(file=file, name=name):
                    self.assertEqual(str(inspect.signature(getattr(module_of(file), name))), arguments)

    def test_functions_and_classes_are_defined_where_they_are_listed(self):
        for lot in (FUNCTIONS, CLASSES):
            for file, names in lot.items():
                for name in names:
                    with self.subTest(file=file, name=name):
                        self.assertEqual(getattr(module_of(file), name).__module__, 'neatwright.' + file)

    def test_methods_are_defined_in_their_class_with_the_listed_arguments(self):
        for (file, name), methods in METHODS.items():
            for method, arguments in methods.items():
                with self.subTest(file=file, name=name, method=method):
                    found = vars(getattr(module_of(file), name))[method]
                    self.assertEqual(str(inspect.signature(found)), arguments)

    def test_constants_are_as_written(self):
        for file, constants in CONSTANTS.items():
            for name, value in constants.items():
                with self.subTest(file=file, name=name):
                    self.assertEqual(getattr(module_of(file), name), value)
                    self.assertIs(type(getattr(module_of(file), name)), type(value))


if __name__ == '__main__':
    unittest.main()
