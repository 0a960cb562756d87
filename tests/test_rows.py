"""Rows and deeds, of [1], [2] and [4]."""

import itertools
import unittest

from kinds import no_places, strange_things
from matchgift.errors import GiftError, NoDeed
from matchgift.rows import after_deed, deeds, holders, is_row, may_give

# The greatest number of thirty figures.
GREATEST = 10 ** 30 - 1
SMALL_ROWS = [
    row for many in (1, 2, 3, 4) for row in itertools.product(range(5), repeat=many) if sum(row) > 0
]


def told_deed(row, i, j):
    """The row behind a deed between places, or None, as [4] words it."""
    if i == j or row[i] == 0 or row[j] == 0 or row[i] < row[j]:
        return None
    behind = dict(enumerate(row))
    behind[j] = 2 * row[j]
    behind[i] = sum(row) - sum(behind[place] for place in behind if place != i)
    return tuple(behind[place] for place in range(len(row)))


class RowTest(unittest.TestCase):
    def yes(self, thing):
        self.assertIs(is_row(thing), True, thing)

    def no(self, thing):
        self.assertIs(is_row(thing), False)

    def test_ordinary_rows(self):
        for row in ((3, 5), (0, 7, 0), (4, 4, 4), (1, 2, 3, 4, 5, 6)):
            self.yes(row)

    def test_one_to_twelve_places(self):
        for many in range(0, 30):
            self.assertIs(is_row((1,) * many), 1 <= many <= 12, many)
        self.no(())
        self.yes((1,))
        self.yes((5,) * 12)
        self.no((5,) * 13)
        self.yes((0,) * 11 + (1,))
        self.no((0,) * 12 + (1,))

    def test_not_all_nothing(self):
        for many in range(1, 13):
            self.no((0,) * many)
            self.yes((0,) * (many - 1) + (1,))
            self.yes((1,) + (0,) * (many - 1))

    def test_sum_of_thirty_figures(self):
        self.yes((GREATEST,))
        self.no((GREATEST + 1,))
        self.yes((GREATEST - 1, 1))
        self.yes((0, GREATEST, 0))
        self.no((GREATEST, 1))
        self.no((GREATEST, GREATEST))
        part, rest = divmod(GREATEST, 12)
        self.yes((part,) * 11 + (part + rest,))
        self.no((part,) * 11 + (part + rest + 1,))
        # Too many figures for Python to write them, too.
        self.no((10 ** 5000,))
        self.no((1, 10 ** 5000))

    def test_below_nothing(self):
        for row in ((-1,), (-1, 2), (5, -1), (5, 0, -5), (-10 ** 30, 1), (10, -1, 10), (GREATEST + 1, -1)):
            self.no(row)

    def test_amounts_of_other_kinds(self):
        for amount in strange_things():
            for row in ((amount,), (amount, 3), (3, amount), (3, 4, amount, 5)):
                self.no(row)
        for amount in (True, False, None, "3", b"3", (3,), [3]):
            self.no((7, amount))

    def test_things_that_are_no_tuple(self):
        for thing in strange_things() + [0, 1, 7, -1, GREATEST, [1, 2, 3], [[1, 2]], [(1, 2)], ((1, 2),)]:
            self.no(thing)

    def test_nested_rows(self):
        thing = (1, 2)
        for _ in range(29):
            thing = (thing,)
            self.no(thing)
            self.no((thing, 1))
            self.no([thing])

    def test_by_name(self):
        self.yes((1, 2))
        self.assertIs(is_row(thing=(1, 2)), True)
        self.assertIs(is_row(thing=[1, 2]), False)

    def test_things_stay_as_they_were(self):
        thing = [1, [2, 3]]
        is_row(thing)
        is_row((1, thing))
        self.assertEqual(thing, [1, [2, 3]])


class HoldersTest(unittest.TestCase):
    def test_holders(self):
        self.assertEqual(holders((3, 5)), (0, 1))
        self.assertEqual(holders((0, 7, 0)), (1,))
        self.assertEqual(holders((0, 7, 0, GREATEST)), (1, 3))
        self.assertEqual(holders((1,)), (0,))
        self.assertEqual(holders((9, 0, 8, 0, 7, 0, 6, 0, 5, 0, 4, 3)), (0, 2, 4, 6, 8, 10, 11))
        self.assertEqual(holders((2,) * 12), tuple(range(12)))

    def test_each_small_row(self):
        for row in SMALL_ROWS:
            told = holders(row)
            self.assertIs(type(told), tuple)
            self.assertEqual(list(told), [place for place in range(len(row)) if row[place] != 0])

    def test_by_name(self):
        self.assertEqual(holders(row=(0, 2)), (1,))


class DeedTest(unittest.TestCase):
    def refused(self, row, i, j):
        self.assertIs(may_give(row, i, j), False)
        with self.assertRaises(GiftError) as caught:
            after_deed(row, i, j)
        self.assertIs(type(caught.exception), NoDeed)

    def test_ordinary_deeds(self):
        self.assertIs(may_give((5, 3), 0, 1), True)
        self.assertEqual(after_deed((5, 3), 0, 1), (2, 6))
        self.assertEqual(after_deed((2, 6), 1, 0), (4, 4))
        self.assertEqual(after_deed((1, 9, 4, 0), 1, 2), (1, 5, 8, 0))

    def test_the_same_amounts(self):
        self.assertEqual(after_deed((4, 4), 0, 1), (0, 8))
        self.assertEqual(after_deed((4, 4), 1, 0), (8, 0))
        self.assertEqual(after_deed((1, 1, 1), 2, 0), (2, 1, 0))

    def test_who_has_less_gives_nothing(self):
        self.refused((5, 3), 1, 0)
        self.refused((5, 4), 1, 0)
        self.refused((GREATEST // 2, GREATEST // 2 + 1), 0, 1)

    def test_who_has_nothing(self):
        for i, j in ((0, 1), (1, 0), (1, 2), (2, 1), (1, 3), (3, 1)):
            self.refused((5, 0, 3, 0), i, j)
        self.refused((8, 0), 0, 1)

    def test_the_same_place_twice(self):
        for place in range(4):
            self.refused((5, 5, 0, 2), place, place)

    def test_one_holder_alone(self):
        self.refused((5,), 0, 0)
        self.refused((5,), 0, 1)
        self.refused((5,), 0, -1)

    def test_places_beyond_either_end(self):
        row = (4, 4, 4)
        for place in (-4, -3, -2, -1, 3, 4, 10 ** 30, -10 ** 30):
            for other in (0, 1, 2, place):
                self.refused(row, place, other)
                self.refused(row, other, place)

    def test_things_that_are_no_places(self):
        row = (4, 4, 4)
        for thing in no_places(3):
            for place in (0, 1, 2, thing, "0", None):
                self.refused(row, thing, place)
                self.refused(row, place, thing)

    def test_truths_are_no_places(self):
        for i, j in ((True, 0), (0, True), (False, 1), (1, False), (True, False), (False, True)):
            self.refused((4, 4), i, j)

    def test_lists_and_tuples_as_places_stay_as_they_were(self):
        thing = [0, [1]]
        self.refused((4, 4), thing, thing)
        self.assertEqual(thing, [0, [1]])

    def test_each_pair_of_each_small_row(self):
        for row in SMALL_ROWS:
            for i, j in itertools.product(range(-len(row), len(row) + 2), repeat=2):
                within = 0 <= i < len(row) and 0 <= j < len(row)
                behind = told_deed(row, i, j) if within else None
                if behind is None:
                    self.refused(row, i, j)
                else:
                    self.assertIs(may_give(row, i, j), True)
                    self.assertEqual(after_deed(row, i, j), behind)
                    self.assertIs(type(after_deed(row, i, j)), tuple)

    def test_rows_of_twelve_places(self):
        row = (7, 0, 3, 7, 1, 0, 12, 3, 40, 2, 2, 9)
        for i, j in itertools.product(range(12), repeat=2):
            behind = told_deed(row, i, j)
            self.assertIs(may_give(row, i, j), behind is not None)
            if behind is not None:
                self.assertEqual(after_deed(row, i, j), behind)

    def test_thirty_figures(self):
        half = GREATEST // 2
        self.assertEqual(after_deed((half + 1, half), 0, 1), (1, GREATEST - 1))
        self.assertEqual(after_deed((GREATEST - 1, 1), 0, 1), (GREATEST - 2, 2))

    def test_by_names(self):
        self.assertIs(may_give(row=(5, 3), i=0, j=1), True)
        self.assertIs(may_give(j=0, i=1, row=(5, 3)), False)
        self.assertEqual(after_deed(j=1, i=0, row=(5, 3)), (2, 6))

    def test_asked_again_the_same_is_told(self):
        row = (5, 3, 0)
        for _ in range(3):
            self.assertEqual(after_deed(row, 0, 1), (2, 6, 0))
        self.assertEqual(row, (5, 3, 0))


class DeedsTest(unittest.TestCase):
    def test_ordinary_rows(self):
        self.assertEqual(deeds((5, 3)), ((0, 1),))
        self.assertEqual(deeds((3, 5)), ((1, 0),))
        self.assertEqual(deeds((4, 0, 4)), ((0, 2), (2, 0)))
        self.assertEqual(deeds((2, 3, 2)), ((0, 2), (1, 0), (1, 2), (2, 0)))

    def test_none(self):
        for row in ((7,), (0, 7), (0, 0, 7, 0)):
            self.assertEqual(deeds(row), ())
            self.assertIs(type(deeds(row)), tuple)

    def test_rising_and_whole(self):
        for row in SMALL_ROWS + [(7, 0, 3, 7, 1, 0, 12, 3, 40, 2, 2, 9), (6,) * 12, tuple(range(12))]:
            pairs = list(itertools.product(range(len(row)), repeat=2))
            told = deeds(row)
            self.assertEqual(told, tuple(pair for pair in pairs if told_deed(row, *pair) is not None))
            self.assertEqual(list(told), sorted(set(told)))
            for deed in told:
                self.assertIs(type(deed), tuple)
                self.assertEqual([type(place) for place in deed], [int, int])

    def test_all_alike(self):
        self.assertEqual(len(deeds((6,) * 12)), 12 * 11)

    def test_by_name(self):
        self.assertEqual(deeds(row=(5, 3)), ((0, 1),))


if __name__ == "__main__":
    unittest.main()
