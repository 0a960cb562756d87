"""Fewest deeds, of [2], [3] (g) and [15]."""

import unittest

from matchgift.errors import GiftError, TooGreat
from matchgift.small import deeds_to, first_way
from plain import all_that_come, behind_deeds, rows_of

MOST = 40
# Places, and the greatest sum for which all rows are held, each beside each, against plain going on.
SMALL = ((1, 5), (2, 20), (3, 10), (4, 6))


def all_deeds(row):
    """Pairs of a deed that may be done and the row behind it, rising."""
    pairs = [(i, j) for i in range(len(row)) for j in range(len(row)) if i != j and row[i] >= row[j] > 0]
    return list(zip(pairs, behind_deeds(row)))


def least_ways(row):
    """Of each row that comes the least of all its shortest ways, by going through all of them."""
    ways = {row: ()}
    longest = {row: ()}
    while longest:
        found = {}
        for now, way in longest.items():
            for deed, behind in all_deeds(now):
                if behind not in ways:
                    found[behind] = min(found.get(behind, way + (deed,)), way + (deed,))
        ways.update(found)
        longest = found
    return ways


class Ways(unittest.TestCase):
    def told(self, row, other, way):
        told, many = first_way(row, other), deeds_to(row, other)
        self.assertEqual(told, way, (row, other))
        self.assertEqual(many, None if way is None else len(way), (row, other))
        if way is not None:
            self.assertIs(type(told), tuple)
            self.assertTrue(all(type(deed) is tuple for deed in told))
            self.assertIs(type(many), int)

    def refused(self, row, other):
        for function in (deeds_to, first_way):
            with self.assertRaises(GiftError) as caught:
                function(row, other)
            self.assertIs(type(caught.exception), TooGreat, (row, other))


class PlainGoingOnTest(Ways):
    def test_all_small_rows(self):
        for places, most in SMALL:
            for total in range(1, most + 1):
                rows = rows_of(places, total)
                for row in rows:
                    ways = least_ways(row)
                    self.assertEqual(set(ways), all_that_come(row))
                    for other in rows:
                        self.told(row, other, ways.get(other))

    def test_greater_rows(self):
        for row in ((1, 2, 30, 7), (10, 10, 10, 10), (1, 3, 15, 21), (13, 14, 12), (1, 38), (40, 0, 0, 0)):
            ways = least_ways(row)
            for other in list(ways)[:500:97] + list(ways)[-1:]:
                self.told(row, other, ways[other])


class KindsOfRowsTest(Ways):
    def test_of_the_same_row(self):
        for row in ((1,), (5, 3), (1, 1, 1), (0, 0, 40), (10, 10, 10, 10), (1, 0, 2, 37)):
            self.told(row, row, ())

    def test_ordinary_rows(self):
        self.told((5, 3), (2, 6), ((0, 1),))
        self.told((5, 3), (8, 0), ((0, 1), (1, 0), (1, 0)))
        self.told((5, 3), (0, 8), ((0, 1), (1, 0), (0, 1)))

    def test_the_least_of_several(self):
        # By (0, 2) and (1, 3), or the other way round.
        self.told((3, 3, 2, 2), (1, 1, 4, 4), ((0, 2), (1, 3)))
        self.told((1, 1, 2), (0, 0, 4), ((0, 1), (1, 2)))
        self.told((2, 2, 1, 1), (0, 2, 4, 0), least_ways((2, 2, 1, 1))[0, 2, 4, 0])

    def test_that_does_not_come(self):
        self.told((1, 6), (3, 4), None)
        self.told((1, 3, 5), (1, 1, 7), None)
        self.told((0, 3), (3, 0), None)

    def test_unlike_sums(self):
        self.told((1, 2, 3), (1, 2, 4), None)
        self.told((1, 2, 37), (1, 2, 3), None)
        self.told((40,), (39,), None)

    def test_unlike_many_places(self):
        self.told((1, 2, 3), (1, 2, 3, 0), None)
        self.told((1, 2, 3, 0), (1, 2, 3), None)
        self.told((6,), (1, 2, 3), None)


class TooGreatTest(Ways):
    def test_just_the_most(self):
        self.told((1, 1, 1, 37), (1, 1, 1, 37), ())
        self.told((1, 1, 1, 37), (2, 1, 1, 36), ((3, 0),))
        self.assertEqual(deeds_to((10, 10, 10, 10), (0, 0, 0, MOST)), 3)

    def test_a_sum_of_one_more(self):
        for row in ((1, 1, 1, 38), (41,), (0, 41), (20, 21), (10 ** 29, 1), (1, 40, 0)):
            self.refused(row, row)
            for other in ((1, 2, 3), (1, 1, 1, 37), (7,), (40, 0, 0, 0)):
                self.refused(row, other)
                self.refused(other, row)

    def test_five_places(self):
        for row in ((1, 1, 1, 1, 1), (0, 0, 0, 0, 3), (1,) * 12, (0, 1, 2, 3, 34)):
            self.refused(row, row)
            for other in ((1, 2, 3), (5,), (2, 1, 1, 1), (0, 0, 0, 3)):
                self.refused(row, other)
                self.refused(other, row)


class HandedInTest(Ways):
    def test_by_names(self):
        self.assertEqual(deeds_to(other=(2, 6), row=(5, 3)), 1)
        self.assertEqual(first_way(other=(2, 6), row=(5, 3)), ((0, 1),))

    def test_asked_again_the_same_is_told(self):
        row, other = (3, 3, 2, 2), (1, 1, 4, 4)
        for _ in range(3):
            self.told(row, other, ((0, 2), (1, 3)))
        self.assertEqual((row, other), ((3, 3, 2, 2), (1, 1, 4, 4)))


if __name__ == "__main__":
    unittest.main()
