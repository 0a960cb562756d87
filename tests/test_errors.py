"""The refusals, of the interface and [2]."""

import unittest

from matchgift import errors
from matchgift.errors import GiftError, NoBack, NoDeed, NoLine, NoName, NoRow, NoText, TooFew, TooGreat

REFUSALS = (NoRow, NoDeed, TooGreat, TooFew, NoBack, NoName, NoText, NoLine)


class Refusals(unittest.TestCase):
    def test_names(self):
        names = [refusal.__name__ for refusal in REFUSALS]
        self.assertEqual(names, "NoRow NoDeed TooGreat TooFew NoBack NoName NoText NoLine".split())

    def test_gift_error_stands_straight_under_value_error(self):
        self.assertEqual(GiftError.__bases__, (ValueError,))

    def test_each_stands_straight_under_gift_error(self):
        for refusal in REFUSALS:
            self.assertEqual(refusal.__bases__, (GiftError,), refusal)

    def test_none_stands_under_another(self):
        for refusal in REFUSALS:
            for other in REFUSALS:
                self.assertEqual(issubclass(refusal, other), refusal is other)

    def test_no_further_ones(self):
        classes = [thing for thing in vars(errors).values() if isinstance(thing, type)]
        self.assertEqual(len(classes), 1 + len(REFUSALS))

    def test_made_with_a_text(self):
        for refusal in (GiftError,) + REFUSALS:
            self.assertEqual(str(refusal("why it is so")), "why it is so")


if __name__ == "__main__":
    unittest.main()
