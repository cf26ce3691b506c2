"""The errors: each is there, and stands straight under NeatFault."""

import unittest

from neatwright import errors

NAMES = ('BadSign', 'BadTree', 'BadLayout', 'BadRun', 'BadChange', 'BadPaper', 'BadSize', 'BadStore', 'NoSuch')


class Errors(unittest.TestCase):

    def test_the_first_is_a_value_error(self):
        self.assertTrue(issubclass(errors.NeatFault, ValueError))

    def test_all_others_stand_under_it_and_not_under_one_another(self):
        for name in NAMES:
            with self.subTest(name):
                self.assertEqual(getattr(errors, name).__bases__, (errors.NeatFault,))

    def test_each_is_raised_with_a_message(self):
        for name in NAMES + ('NeatFault',):
            with self.subTest(name), self.assertRaises(errors.NeatFault) as caught:
                raise getattr(errors, name)('why')
            self.assertEqual(str(caught.exception), 'why')


if __name__ == '__main__':
    unittest.main()
