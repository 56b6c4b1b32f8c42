"""The errors: their names, and what they are."""

import unittest

from boughblocks import errors

NAMED = ["BadTree", "BadKnot", "BadRoom", "BadLaying", "BadWeights", "BadTrees", "BadNumber", "TooGreat", "Bare"]


class TestErrors(unittest.TestCase):

    def test_the_base_is_straight_under_valueerror(self):
        self.assertEqual(errors.BoughError.__bases__, (ValueError,))
        self.assertEqual(errors.BoughError.__name__, "BoughError")
        self.assertEqual(errors.BoughError.__module__, "boughblocks.errors")

    def test_each_is_straight_under_the_base(self):
        for name in NAMED:
            error = getattr(errors, name)
            self.assertEqual(error.__bases__, (errors.BoughError,), name)
            self.assertEqual(error.__name__, name)
            self.assertEqual(error.__module__, "boughblocks.errors", name)

    def test_each_is_another(self):
        self.assertEqual(len({getattr(errors, name) for name in NAMED}), 9)

    def test_each_is_raised_with_words(self):
        for name in NAMED:
            error = getattr(errors, name)
            with self.assertRaises(ValueError) as caught:
                raise error("why")
            self.assertIs(type(caught.exception), error)
            self.assertEqual(str(caught.exception), "why")


if __name__ == "__main__":
    unittest.main()
