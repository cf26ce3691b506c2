"""The package's form: what the rules of its language say of folders, files, rows, functions and imports."""

import ast
import pathlib
import unittest

PACKAGE = pathlib.Path(__file__).resolve().parent.parent / 'neatwright'
TEXTS = {path.name: path.read_text(encoding='utf-8') for path in sorted(PACKAGE.glob('*.py'))}


class Form(unittest.TestCase):

    def test_the_folder_holds_python_files_alone(self):
        # Python's own kept code isn't the project's.
        others = [path.name for path in PACKAGE.iterdir() if path.suffix != '.py' and path.name != '__pycache__']
        self.assertEqual(others, [])
        self.assertIn('__init__.py', TEXTS)

    def test_files_and_rows_are_short_and_plain(self):
        for name, text in TEXTS.items():
            rows = text.split('\n')
            self.assertLessEqual(len(rows) - 1, 399, name)
            self.assertLessEqual(max(len(row) for row in rows), 120, name)
            self.assertTrue(all(sign == '\n' or ' ' <= sign <= '~' for sign in text), name)

    def test_functions_have_at_most_forty_rows(self):
        for name, text in TEXTS.items():
            for node in ast.walk(ast.parse(text)):
                if isinstance(node, ast.FunctionDef):
                    self.assertLessEqual(node.end_lineno - node.lineno + 1, 40, (name, node.name))

    def test_imports_are_from_the_package_by_full_names(self):
        for name, text in TEXTS.items():
            for node in ast.walk(ast.parse(text)):
                self.assertNotIsInstance(node, ast.Import, name)
                if isinstance(node, ast.ImportFrom):
                    self.assertEqual(node.level, 0, name)
                    self.assertEqual(node.module.split('.')[0], 'neatwright', name)


if __name__ == '__main__':
    unittest.main()
