"""Wishes, of [2], [3] (f) and [13]."""

import itertools
import unittest

from matchgift.errors import GiftError, TooFew
from matchgift.wishes import can_be, wished
from plain import all_that_come, how_many_have, mixed, rows_of, shared_out
from worded import told_broken

GREATEST = 10 ** 30 - 1
# Places, and the sums for which all wishes of all rows are held against plain going on.
SMALL = ((3, (3, 4, 6, 8, 9)), (4, (4, 5, 6)), (5, (5,)))


def does_meet(row, wishes):
    return len(row) == len(wishes) and all(wish is None or wish == amount for amount, wish in zip(row, wishes))


def all_wishes_met(rows):
    """The set of all wishes that one of the rows meets."""
    met = set()
    for row in rows:
        for keeps in itertools.product((False, True), repeat=len(row)):
            met.add(tuple(amount if is_kept else None for amount, is_kept in zip(row, keeps)))
    return met


class Wishes(unittest.TestCase):
    def met(self, row, wishes):
        """Met by a row that is told, of a row in which at least three have something."""
        told = wished(row, wishes)
        self.assertIs(type(told), tuple, (row, wishes))
        self.assertTrue(all(type(amount) is int and amount >= 0 for amount in told))
        self.assertTrue(does_meet(told, wishes), (row, wishes, told))
        self.assertEqual(told_broken(row, told, ()), (), (row, wishes, told))
        self.assertIs(can_be(row, wishes), True)

    def unmet(self, row, wishes):
        self.assertIsNone(wished(row, wishes), (row, wishes))
        self.assertIs(can_be(row, wishes), False, (row, wishes))

    def judged(self, row, other, wishes):
        """Of wishes that the other row alone of its sum meets."""
        if told_broken(row, other, ()) == ():
            self.met(row, wishes)
        else:
            self.unmet(row, wishes)

    def refused(self, row, wishes):
        for function in (can_be, wished):
            with self.assertRaises(GiftError) as caught:
                function(row, wishes)
            self.assertIs(type(caught.exception), TooFew, (row, wishes))


class PlainGoingOnTest(Wishes):
    def test_all_wishes_of_small_rows(self):
        for places, totals in SMALL:
            for total in totals:
                nexts = {}
                for row in rows_of(places, total):
                    if how_many_have(row) < 3 or row != tuple(sorted(row)):
                        continue
                    that_come = all_that_come(row, nexts)
                    can = all_wishes_met(that_come)
                    for wishes in itertools.product([None] + list(range(total + 2)), repeat=places):
                        told = wished(row, wishes)
                        self.assertIs(can_be(row, wishes), wishes in can, (row, wishes))
                        self.assertIs(told is not None, wishes in can, (row, wishes))
                        if told is not None:
                            self.assertTrue(does_meet(told, wishes), (row, wishes, told))
                            self.assertIn(told, that_come)

    def test_some_wishes_of_all_orders(self):
        for row in rows_of(4, 7) + rows_of(3, 10):
            if how_many_have(row) < 3:
                continue
            can = all_wishes_met(all_that_come(row))
            for wishes in itertools.product((None, 0, 1, 2, 3, 5), repeat=len(row)):
                self.assertIs(can_be(row, wishes), wishes in can, (row, wishes))
                self.assertIs(wished(row, wishes) is not None, wishes in can, (row, wishes))


class KindsOfWishesTest(Wishes):
    def test_none_wished(self):
        for row in ((1, 2, 3), (1, 1, 1), (0, 3, 5, 7), (10 ** 29, 2, 3), (7,) * 12):
            self.met(row, (None,) * len(row))

    def test_the_row_itself(self):
        for row in ((1, 2, 3), (1, 1, 1), (1, 3, 5), (0, 3, 5, 7), (2, 6, 10, 0), (7,) * 12, (3, 5, 10 ** 29 + 1)):
            self.met(row, row)
            for place in range(len(row)):
                self.met(row, row[:place] + (None,) + row[place + 1:])

    def test_nothing_wished(self):
        self.met((1, 2, 5), (0, None, None))
        self.met((1, 2, 5), (0, 0, None))
        self.unmet((1, 2, 6), (0, 0, None))
        self.unmet((1, 2, 5), (0, 0, 0))
        self.met((3, 6, 6), (0, None, None))

    def test_more_than_the_sum(self):
        for wishes in ((9, None, None), (4, 5, None), (GREATEST, None, None), (3, 3, 3), (9, 0, 0)):
            self.unmet((1, 2, 5), wishes)

    def test_less_than_the_sum(self):
        self.unmet((1, 2, 5), (1, 2, 4))
        self.unmet((1, 2, 5, 0), (1, 2, 4, None))
        self.unmet((1, 2, 5, 0), (2, 2, 2, None))

    def test_something_of_who_has_nothing(self):
        self.unmet((1, 2, 5, 0), (None, None, None, 1))
        self.unmet((1, 2, 5, 0), (1, 2, 4, 1))
        self.unmet((0, 0, 4, 4, 4), (4, None, None, None, None))
        self.met((1, 2, 5, 0), (None, None, None, 0))
        self.met((1, 2, 5, 0), (4, None, None, None))

    def test_other_measures_and_twos(self):
        self.unmet((3, 6, 9), (1, None, None))
        self.met((3, 6, 9), (6, None, None))
        self.unmet((4, 4, 12), (2, None, None))
        self.unmet((1, 2, 6), (3, 6, None))
        self.met((1, 2, 6), (3, None, None))

    def test_one_unit_left(self):
        # Who comes to have the 1 has an odd amount, as those have of whom it is wished.
        self.unmet((1, 2, 3, 2), (None, None, 7, 0))
        self.met((1, 2, 3, 2), (None, None, 3, 4))
        self.met((1, 2, 4, 2), (None, None, 4, 4))
        self.unmet((1, 1, 1, 1, 1), (1, 3, None, None, 0))
        self.unmet((3, 1, 1, 2, 2), (3, 5, None, None, 0))
        self.met((3, 1, 1, 2, 2), (3, 3, None, None, 2))

    def test_too_many_odd_ones(self):
        self.unmet((1, 2, 2, 2, 2), (3, 3, None, None, None))
        self.met((1, 1, 3, 2, 2), (3, 3, None, None, None))
        self.unmet((1, 2, 2, 2, 2), (1, 1, None, None, 0))
        self.met((1, 2, 2, 2, 2), (4, None, 0, None, None))


class GreatRowsTest(Wishes):
    def rows(self):
        return [mixed(seed, 3 + seed % 10, GREATEST) for seed in range(10)] + [
            (1, 2, GREATEST - 3), (10 ** 29, 3 * 10 ** 29, 5 * 10 ** 29), (2 ** 98, 2 ** 97, 2 ** 97),
            (3 ** 60, 3 ** 61, 0, 2 * 3 ** 60), (1, 1, GREATEST - 2), shared_out(2 ** 99, (1, 1, 1)),
        ]

    def test_two_or_more_let(self):
        for row in self.rows():
            places = [place for place, amount in enumerate(row) if amount]
            total, least = sum(row), min(amount for amount in row if amount)
            for amount in (0, 2 * least, row[places[0]], total // 7 // least * least, total - 3 * least, total):
                wishes = [None] * len(row)
                wishes[places[0]] = amount
                told = wished(row, tuple(wishes))
                if told is not None:
                    self.met(row, tuple(wishes))
                self.assertIs(can_be(row, tuple(wishes)), told is not None)
        self.met((1, 2, GREATEST - 3), (None, 10 ** 29, None))
        self.met((1, 2, GREATEST - 3), (None, 10 ** 29 + 1, None))
        self.unmet((2, 4, GREATEST - 7), (None, GREATEST, 1))
        self.unmet((10 ** 29, 3 * 10 ** 29, 5 * 10 ** 29), (1, None, None))
        self.met((10 ** 29, 3 * 10 ** 29, 5 * 10 ** 29), (2 * 10 ** 29, None, None))
        self.met((10 ** 29, 3 * 10 ** 29, 5 * 10 ** 29), (7 * 10 ** 29, None, None))
        self.met((10 ** 29, 3 * 10 ** 29, 5 * 10 ** 29), (8 * 10 ** 29, 0, None))
        self.unmet((10 ** 29, 3 * 10 ** 29, 3 * 10 ** 29, 2 * 10 ** 29), (3 * 10 ** 29, 5 * 10 ** 29, None, None))

    def test_one_let(self):
        for row in self.rows():
            total = sum(row)
            for other in (row[::-1], (2, 4) + row[2:], (0,) * (len(row) - 1) + (total,), row[1:] + row[:1]):
                for place in range(len(row)):
                    if row[place] == 0:
                        continue
                    left = total - sum(other) + other[place]
                    full = other[:place] + (left,) + other[place + 1:]
                    wishes = other[:place] + (None,) + other[place + 1:]
                    if left < 0:
                        self.unmet(row, wishes)
                    else:
                        self.judged(row, full, wishes)

    def test_all_wished(self):
        for row in self.rows():
            for other in (row, row[::-1], shared_out(sum(row), (2,) * (len(row) - 1))):
                self.judged(row, other, other)

    def test_twelve_places(self):
        row = mixed(3, 12, GREATEST)
        for many in range(11):
            self.met(row, (2,) * many + (None,) * (12 - many))
            self.met(row, (None,) * (12 - many) + (0,) * many)


class TooFewTest(Wishes):
    def test_whatever_the_wishes(self):
        for row in ((5,), (5, 3), (0, 5, 3), (0, 0, 7), (10 ** 29, 1), (0, GREATEST)):
            for wishes in ((None,) * len(row), row, (0,) * len(row), (GREATEST,) * len(row), (1,) * len(row)):
                self.refused(row, wishes)


class HandedInTest(Wishes):
    def test_by_names(self):
        self.assertIs(can_be(wishes=(4, None, None), row=(1, 2, 5)), True)
        self.assertEqual(wished(wishes=(0, 0, None), row=(1, 2, 5)), (0, 0, 8))

    def test_asked_again_the_same_is_told(self):
        row, wishes = (1, 2, 5, 9), (None, 4, None, None)
        told = wished(row, wishes)
        for _ in range(3):
            self.assertEqual(wished(row, wishes), told)
            self.assertIs(can_be(row, wishes), True)
        self.assertEqual((row, wishes), ((1, 2, 5, 9), (None, 4, None, None)))


if __name__ == "__main__":
    unittest.main()
