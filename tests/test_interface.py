"""The interface: each name that has landed, with its arguments, in the file under which the document lists it."""

import importlib
import inspect
import unittest

FUNCTIONS = {
    'signs': {
        'cut': '(text)', 'piece_at': '(text, place)', 'run_on': '(text, place, signs)', 'joined': '(pieces)',
        'words_of': '(text)', 'remarks_of': '(text)', 'row_and_column': '(text, place)', 'is_name': '(word)',
        'check_name': '(word)', 'same_words': '(one, other)', 'without_gaps_at_ends': '(text)',
    },
    'trees': {
        'is_worth': '(tree)', 'is_step': '(tree, inside)', 'are_steps': '(rows, inside)', 'check_program': '(rows)',
        'inner_def': '(row)', 'blocks_of': '(row)', 'with_blocks': '(row, lots)', 'worths_of': '(row)',
        'with_worths': '(row, worths)', 'inner_worths': '(tree)', 'with_inner': '(tree, worths)',
        'all_worths': '(tree)', 'all_steps': '(rows)', 'names_in': '(tree)', 'calls_in': '(tree)',
        'mapped': '(rows, deed)', 'at_way': '(rows, way)', 'put_at': '(rows, way, steps)',
        'all_ways': '(rows, head=())', 'size': '(tree)',
    },
}
CLASSES = {
    'errors': ('NeatFault', 'BadSign', 'BadTree', 'BadLayout', 'BadRun', 'BadChange', 'BadPaper', 'BadSize',
               'BadStore', 'NoSuch'),
}
CONSTANTS = {
    'signs': {
        'SMALL': 'abcdefghijklmnopqrstuvwxyz', 'FIGURES': '0123456789',
        'KEYS': ('say', 'if', 'else', 'while', 'def', 'give'),
        'MARKS': ('==', '=', '<', '+', '-', '*', '(', ')', '{', '}', ',', ';'),
    },
    'trees': {'DEEDS': ('==', '<', '+', '-', '*')},
}


def module_of(name):
    return importlib.import_module('neatwright.' + name)


class Interface(unittest.TestCase):

    def test_functions_have_the_listed_arguments(self):
        for file, functions in FUNCTIONS.items():
            for name, arguments in functions.items():
                with self.subTest(file=file, name=name):
                    self.assertEqual(str(inspect.signature(getattr(module_of(file), name))), arguments)

    def test_functions_and_classes_are_defined_where_they_are_listed(self):
        for lot in (FUNCTIONS, CLASSES):
            for file, names in lot.items():
                for name in names:
                    with self.subTest(file=file, name=name):
                        self.assertEqual(getattr(module_of(file), name).__module__, 'neatwright.' + file)

    def test_constants_are_as_written(self):
        for file, constants in CONSTANTS.items():
            for name, value in constants.items():
                with self.subTest(file=file, name=name):
                    self.assertEqual(getattr(module_of(file), name), value)
                    self.assertIs(type(getattr(module_of(file), name)), type(value))


if __name__ == '__main__':
    unittest.main()
