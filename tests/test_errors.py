"""Points 0.4 and the interface of rootwebs/errors.py."""

import unittest

from rootwebs.errors import NoLine, NoNumber, NoPlace, NoRoot, NoText, NoTree, NoWeb, RootError, TooGreat


class Errors(unittest.TestCase):
    def test_root_error_stands_straight_under_value_error(self):
        self.assertEqual(RootError.__bases__, (ValueError,))

    def test_all_others_stand_straight_under_root_error(self):
        for kind in (NoPlace, NoNumber, NoLine, NoRoot, NoTree, NoWeb, NoText, TooGreat):
            self.assertEqual(kind.__bases__, (RootError,))

    def test_those_without_fields_are_made_of_nothing(self):
        for kind in (NoPlace, NoNumber, NoLine, NoRoot, NoTree):
            self.assertIsInstance(kind(), kind)
            self.assertEqual(vars(kind()), {})

    def test_fields_are_set_when_created(self):
        self.assertEqual(vars(NoWeb(-1)), {"number": -1})
        self.assertEqual(vars(NoText(3)), {"row": 3})
        self.assertEqual(vars(TooGreat(13, 12)), {"many": 13, "most": 12})


if __name__ == "__main__":
    unittest.main()
