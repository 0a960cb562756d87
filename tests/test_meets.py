"""Meeting and going round, of [2], [3] (f) and [14]."""

import itertools
import unittest

from matchgift.errors import GiftError, TooFew
from matchgift.meets import goes_round, meeting
from plain import all_that_come, behind_deeds, how_many_have, mixed, rows_of, shared_out
from worded import told_broken

GREATEST = 10 ** 30 - 1
# Places, and the greatest sum for which all rows are held against plain going on.
SMALL = ((3, 12), (4, 8), (5, 6))
SMALL_ROUND = ((1, 8), (2, 40), (3, 14), (4, 9), (5, 7))


class Meetings(unittest.TestCase):
    def met(self, *rows):
        told = meeting(rows)
        self.assertIs(type(told), tuple, rows)
        self.assertTrue(all(type(amount) is int and amount >= 0 for amount in told))
        for row in rows:
            self.assertEqual(told_broken(row, told, ()), (), (row, told))

    def unmet(self, *rows):
        self.assertIsNone(meeting(rows), rows)

    def refused(self, *rows):
        with self.assertRaises(GiftError) as caught:
            meeting(rows)
        self.assertIs(type(caught.exception), TooFew, rows)


class PlainGoingOnTest(Meetings):
    def held(self, rows, that_come):
        """A row that comes of each, None where there is none."""
        common = set.intersection(*[that_come[row] for row in rows])
        told = meeting(rows)
        if told is None:
            self.assertFalse(common, rows)
        else:
            self.assertIn(told, common, rows)

    def test_two_small_rows(self):
        for places, most in SMALL:
            for total in range(3, most + 1):
                nexts = {}
                rows = [row for row in rows_of(places, total) if how_many_have(row) > 2]
                that_come = {row: all_that_come(row, nexts) for row in rows}
                for pair in itertools.product(rows, repeat=2):
                    self.held(pair, that_come)

    def test_one_and_three_small_rows(self):
        for places, total in ((4, 6), (4, 8), (5, 5), (3, 6)):
            nexts = {}
            rows = [row for row in rows_of(places, total) if how_many_have(row) > 2]
            that_come = {row: all_that_come(row, nexts) for row in rows}
            for row in rows:
                self.held((row,), that_come)
            for three in itertools.product(rows[::2], rows[1::2], rows[::3]):
                self.held(three, that_come)


class KindsOfRowsTest(Meetings):
    def test_one_row(self):
        for row in ((1, 2, 3), (1, 1, 1), (1, 3, 5), (0, 2, 2, 2), (7,) * 12):
            self.met(row)

    def test_the_same_row_twice(self):
        for row in ((1, 2, 3), (1, 1, 1), (1, 3, 5), (0, 2, 2, 2), (7,) * 12):
            self.met(row, row)
            self.met(row, tuple(list(row)), row)

    def test_unlike_sums(self):
        self.unmet((1, 2, 3), (1, 2, 4))
        self.unmet((1, 2, 3), (1, 2, 3), (2, 4, 6))
        self.unmet((1, 2, 3), (100, 100, 100))
        self.unmet((100, 100, 100), (1, 2, 3))
        self.unmet((1, 2, 3), (1, 2, 3), (10 ** 29,) * 3)

    def test_unlike_measures(self):
        self.unmet((3, 6, 6), (1, 2, 12))
        self.unmet((5, 5, 5), (3, 6, 6))
        self.met((3, 6, 6), (3, 3, 9))

    def test_unlike_many_places(self):
        self.unmet((1, 2, 3), (1, 2, 3, 0))
        self.unmet((1, 2, 3, 0), (1, 2, 3))
        self.unmet((1, 2, 3), (1, 2, 3), (0, 1, 2, 3))
        self.unmet((1, 0, 0, 2, 3), (1, 2, 3))
        self.unmet((1, 2, 3), (1, 0, 0, 2, 3))
        self.unmet((0, 0, 0, 1, 2, 3), (1, 2, 3), (9, 9, 9))

    def test_unlike_twos_and_odd_ones(self):
        self.met((1, 1, 10), (4, 4, 4))
        self.met((1, 1, 10), (2, 4, 6))
        self.met((1, 3, 4), (2, 2, 4))
        self.met((1, 1, 14), (4, 4, 8), (2, 2, 12))
        self.met((1, 2, 4), (1, 1, 5))

    def test_two_have_something_in_all(self):
        self.met((1, 2, 4, 0), (0, 2, 1, 4))
        self.met((3, 6, 3, 0), (0, 3, 3, 6))
        self.met((1, 2, 6, 0, 0), (0, 1, 2, 0, 6))

    def test_one_has_something_in_all(self):
        self.met((1, 2, 5, 0, 0), (0, 0, 1, 2, 5))
        self.met((3, 6, 15, 0, 0), (0, 0, 3, 6, 15))
        self.met((4, 4, 8, 0, 0), (0, 0, 1, 1, 14))
        self.unmet((1, 2, 6, 0, 0), (0, 0, 1, 2, 6))
        self.unmet((3, 6, 6, 0, 0), (0, 0, 3, 6, 6))
        self.unmet((1, 2, 5, 0, 0), (0, 0, 1, 2, 6))
        self.met((5, 10, 1, 0, 0), (0, 0, 5, 5, 6), (5, 5, 6, 0, 0), (1, 2, 3, 0, 10))
        self.unmet((5, 10, 2, 0, 0), (0, 0, 5, 5, 7), (5, 5, 7, 0, 0), (1, 2, 3, 0, 11))

    def test_none_has_something_in_all(self):
        self.unmet((1, 2, 5, 0, 0, 0), (0, 0, 0, 1, 2, 5))
        self.unmet((1, 2, 5, 0, 0), (0, 1, 2, 5, 0), (5, 0, 0, 1, 2))
        self.unmet((1, 2, 1, 0), (0, 1, 2, 1), (1, 0, 2, 1), (2, 1, 0, 1))


class GreatRowsTest(Meetings):
    def test_thirty_figures(self):
        total = GREATEST
        rows = [shared_out(total, mixed(seed, 5, total)[:4]) for seed in range(4)] + [(1, 2, 3, 4, total - 10)]
        for pair in itertools.product(rows, repeat=2):
            self.met(*pair)
        self.met(*rows)
        self.met((1,) * 11 + (total - 11,), (total - 22,) + (2,) * 11)

    def test_great_units(self):
        part = 7 ** 30
        self.met((part, 2 * part, 5 * part), (4 * part, 2 * part, 2 * part))
        self.unmet((part, 2 * part, 5 * part), (1, 2, 8 * part - 3))
        self.met((2 ** 97, 2 ** 97, 2 ** 98), (1, 3, 2 ** 99 - 4))

    def test_one_in_all(self):
        self.met((1, 2, 2 ** 99 - 3, 0, 0), (0, 0, 2 ** 98, 2 ** 97, 2 ** 97))
        self.unmet((1, 2, 2 ** 99 - 2, 0, 0), (0, 0, 2 ** 98, 2 ** 97, 2 ** 97 + 1))
        self.met((5 ** 30, 2 * 5 ** 30, 29 * 5 ** 30, 0, 0), (0, 0, 5 ** 30, 5 ** 30, 30 * 5 ** 30))


class TooFewTest(Meetings):
    def test_ahead_of_none_wherever_it_stands(self):
        for few in ((5, 3, 0), (0, 8, 0), (5, 3), (8,), (0, 5, 3, 0), (GREATEST,), (1, 10 ** 29)):
            self.refused(few)
            self.refused(few, few)
            for others in (((1, 2, 5),), ((1, 2, 6),), ((1, 2, 5), (2, 4, 6, 8)), ((1, 2, 5, 0), (5, 2, 1))):
                for at in range(len(others) + 1):
                    self.refused(*(others[:at] + (few,) + others[at:]))

    def test_by_name_and_as_it_was(self):
        rows = ((1, 2, 5), (2, 2, 4))
        told = meeting(rows=rows)
        for _ in range(3):
            self.assertEqual(meeting(rows), told)
        self.assertEqual(rows, ((1, 2, 5), (2, 2, 4)))
        self.met(*rows)


class RoundTest(unittest.TestCase):
    def told(self, row, answer):
        self.assertIs(goes_round(row), answer, row)

    def test_small_rows(self):
        for places, most in SMALL_ROUND:
            for total in range(1, most + 1):
                nexts = {}
                for row in rows_of(places, total):
                    if places < 3 or row == tuple(sorted(row)):
                        again = any(row in all_that_come(behind, nexts) for behind in behind_deeds(row))
                        self.told(row, again)

    def test_one_holder(self):
        for row in ((1,), (8,), (0, 7), (0, 0, 6, 0), (GREATEST,)):
            self.told(row, False)

    def test_two_holders(self):
        self.told((1, 2), True)
        self.told((0, 6, 0, 3), True)
        self.told((1, 10 ** 29), True)
        self.told((1, 1), False)
        self.told((5, 3), False)
        self.told((1, 5), False)
        self.told((6, 10), False)
        self.told((10 ** 29 + 1, 1), False)
        self.told((1, GREATEST - 1), True)

    def test_all_odd_ones(self):
        for row in ((1, 3, 5), (1, 1, 1), (2, 6, 10), (0, 3, 5, 7), (7,) * 12, (2 ** 90,) * 12, (3 ** 60, 5 ** 40, 7)):
            self.told(row, False)

    def test_others(self):
        for row in ((1, 2, 3), (1, 1, 2), (0, 4, 4, 8), (2,) * 11 + (3,), (10 ** 29, 1, 1), (2 ** 90,) * 11 + (2 ** 91,)):
            self.told(row, True)

    def test_by_name(self):
        self.assertIs(goes_round(row=(1, 2)), True)
        self.assertIs(goes_round(row=(1, 1)), False)


if __name__ == "__main__":
    unittest.main()
