"""Runs, of [2], [3] (c) and [6]."""

import itertools
import unittest

from kinds import no_places, strange_things
from matchgift.errors import GiftError, NoDeed
from matchgift.runs import ended_by, may_run, ran
from plain import one_by_one, whole_walk

GREATEST = 10 ** 30 - 1
MOST_SMALL = 40


def told_end(first, second):
    """How many deeds there are until one has nothing, None where the amounts come round."""
    stands, behind = whole_walk(first, second)
    return len(stands) - 1 if behind is None else None


class RunTest(unittest.TestCase):
    def done(self, row, run, behind):
        self.assertIs(may_run(row, run), True, (row, run))
        self.assertEqual(ran(row, run), behind)
        self.assertIs(type(ran(row, run)), tuple)

    def refused(self, row, run):
        self.assertIs(may_run(row, run), False)
        with self.assertRaises(GiftError) as caught:
            ran(row, run)
        self.assertIs(type(caught.exception), NoDeed)

    def test_no_deeds(self):
        self.done((5, 3), (0, 1, 0), (5, 3))
        self.done((5, 3), (1, 0, 0), (5, 3))
        self.done((4, 4), (0, 1, 0), (4, 4))
        self.done((1, 0, GREATEST - 1), (2, 0, 0), (1, 0, GREATEST - 1))

    def test_whoever_has_more_gives(self):
        self.done((5, 3), (0, 1, 1), (2, 6))
        self.done((5, 3), (1, 0, 1), (2, 6))
        self.done((5, 3), (0, 1, 2), (4, 4))
        self.done((5, 3), (1, 0, 2), (4, 4))

    def test_where_both_have_the_same_the_first_one_gives(self):
        self.done((4, 4), (0, 1, 1), (0, 8))
        self.done((4, 4), (1, 0, 1), (8, 0))
        self.done((5, 3), (0, 1, 3), (0, 8))
        self.done((5, 3), (1, 0, 3), (8, 0))
        self.done((9, 7, 7, 9), (2, 1, 1), (9, 14, 0, 9))

    def test_none_behind_the_last(self):
        for first, second, most in ((4, 4, 1), (5, 3, 3), (3, 5, 3), (6, 2, 2), (1, 2 ** 97 - 1, 97)):
            together = first + second
            self.done((first, second), (0, 1, most), (0, together))
            self.done((first, second), (1, 0, most), (together, 0))
            for more in (1, 2, 3, most, 10 ** 29):
                self.refused((first, second), (0, 1, most + more))
                self.refused((first, second), (1, 0, most + more))

    def test_others_keep_what_they_have(self):
        self.done((8, 1, 0, 2, 6), (1, 3, 5), (8, 2, 0, 1, 6))
        self.done((8, 1, 0, 2, 6), (3, 1, 4), (8, 1, 0, 2, 6))

    def test_as_many_deeds_as_have_thirty_figures(self):
        # 2 + 1 comes round by 2 deeds, 1 + 4 by 4, 3 + 4 by 3.
        for k in (10 ** 29, 10 ** 29 + 1, GREATEST - 1, GREATEST, 5 ** 42 * 2, 5 ** 42 * 2 + 3):
            self.done((2, 1), (0, 1, k), one_by_one(2, 1, 10)[k % 2])
            self.done((9, 1, 4), (1, 2, k), (9,) + one_by_one(1, 4, 10)[k % 4])
            self.done((3, 4), (1, 0, k), one_by_one(3, 4, 10)[k % 3])

    def test_many_deeds_of_great_amounts(self):
        first, second = 3 ** 60, 5 ** 42 + 1
        stands = one_by_one(first, second, 3000)
        for k in (0, 1, 2, 50, 511, 512, 1000, 2999, 3000):
            self.done((first, second), (0, 1, k), stands[k])
        amount = first * pow(2, GREATEST, first + second) % (first + second)
        self.done((first, second), (0, 1, GREATEST), (amount, first + second - amount))

    def test_a_run_behind_a_run(self):
        row = (10 ** 29 + 3, 7 * 10 ** 28)
        halfway = ran(row, (0, 1, 4 * 10 ** 29))
        self.assertEqual(ran(halfway, (0, 1, 10 ** 29 + 1)), ran(row, (0, 1, 5 * 10 ** 29 + 1)))

    def test_all_small_pairs_one_by_one(self):
        for first, second in itertools.product(range(1, MOST_SMALL + 1), repeat=2):
            stands = one_by_one(first, second, 60)
            for k in range(0, 61):
                if k < len(stands):
                    self.done((first, second), (0, 1, k), stands[k])
                else:
                    self.refused((first, second), (0, 1, k))

    def test_small_pairs_the_other_way_and_among_others(self):
        for first, second in itertools.product(range(1, 17), repeat=2):
            stands = one_by_one(first, second, 20)
            for k in range(0, 21):
                row = (7, second, 0, first, 2)
                if k < len(stands):
                    now, then = stands[k]
                    self.done(row, (3, 1, k), (7, then, 0, now, 2))
                else:
                    self.refused(row, (3, 1, k))

    def test_another_count_of_parts(self):
        for run in ((), (0,), (0, 1), (0, 1, 1, 0), (0, 1, 1, 1), (0, 1, None, 1), ((0, 1), 1), ((0, 1, 1),)):
            self.refused((5, 3), run)

    def test_a_list_is_no_run(self):
        self.refused((5, 3), [0, 1, 1])
        self.refused((5, 3), ([0], 1, 1))
        self.refused((5, 3), (0, [1], 1))
        self.refused((5, 3), (0, 1, [1]))

    def test_a_truth_is_no_number(self):
        for run in ((0, 1, True), (0, 1, False), (False, 1, 1), (0, True, 1), (True, 0, 0), (1, False, 0)):
            self.refused((5, 3), run)

    def test_fewer_deeds_than_none(self):
        for k in (-1, -2, -3, -10 ** 30):
            self.refused((5, 3), (0, 1, k))
            self.refused((2, 1), (0, 1, k))

    def test_one_place_twice(self):
        for place, k in itertools.product(range(3), range(3)):
            self.refused((5, 3, 0), (place, place, k))
        self.refused((5,), (0, 0, 0))

    def test_places_that_are_none(self):
        for place in (-3, -2, -1, 2, 3, 10 ** 30):
            for k in (0, 1):
                self.refused((5, 3), (0, place, k))
                self.refused((5, 3), (place, 0, k))
                self.refused((5, 3), (place, 1, k))

    def test_holders_who_have_nothing(self):
        for i, j in ((0, 1), (1, 0), (1, 3), (3, 1), (2, 3), (3, 2)):
            for k in (0, 1, 2):
                self.refused((5, 0, 3, 0), (i, j, k))

    def test_anything_as_run(self):
        for thing in strange_things() + [0, 1, -1, "0>1*1", "0 1 1"]:
            self.refused((5, 3), thing)

    def test_anything_as_a_part(self):
        for thing in no_places(2):
            self.refused((5, 3), (thing, 1, 1))
            self.refused((5, 3), (0, thing, 1))
            self.refused((5, 3), (thing, thing, 1))
        for thing in strange_things():
            self.refused((5, 3), (0, 1, thing))
            self.refused((5, 3), (thing, thing, thing))

    def test_by_names(self):
        self.assertIs(may_run(run=(0, 1, 3), row=(5, 3)), True)
        self.assertIs(may_run(run=(0, 1, 4), row=(5, 3)), False)
        self.assertEqual(ran(run=(0, 1, 3), row=(5, 3)), (0, 8))

    def test_what_was_handed_in_stays_as_it_was(self):
        row, run, thing = (5, 3, 9), (0, 1, 3), [0, [1], 1]
        for _ in range(3):
            self.done(row, run, (0, 8, 9))
            self.refused(row, thing)
            self.refused(row, (thing, 1, 1))
        self.assertEqual((row, run, thing), ((5, 3, 9), (0, 1, 3), [0, [1], 1]))


class EndTest(unittest.TestCase):
    def told(self, row, i, j, many):
        self.assertEqual(ended_by(row, i, j), many, (row, i, j))
        self.assertIs(type(ended_by(row, i, j)), type(many))

    def test_ordinary_pairs(self):
        self.told((4, 4), 0, 1, 1)
        self.told((1, 1), 1, 0, 1)
        self.told((5, 3), 0, 1, 3)
        self.told((6, 2), 1, 0, 2)
        self.told((2, 1), 0, 1, None)
        self.told((9, 3, 0, 9), 0, 1, 2)
        self.told((9, 3, 0, 9), 1, 3, 2)
        self.told((9, 3, 0, 9), 3, 0, 1)
        self.told((9, 3, 0, 1), 3, 0, None)

    def test_all_small_pairs_one_by_one(self):
        for first, second in itertools.product(range(1, 65), repeat=2):
            many = told_end(first, second)
            self.told((first, second), 0, 1, many)
            self.told((7, second, 0, first), 3, 1, many)

    def test_thirty_figures(self):
        self.told((1, 2 ** 99 - 1), 0, 1, 99)
        self.told((2 ** 98 - 1, 2 ** 98 + 1), 1, 0, 99)
        self.told((10 ** 29, 10 ** 29), 0, 1, 1)
        self.told((10 ** 29, 3 * 10 ** 29), 0, 1, 2)
        self.told((5 ** 40, 5 ** 40 * 31), 0, 1, 5)
        self.told((10 ** 29, 2 * 10 ** 29), 0, 1, None)
        self.told((GREATEST - 1, 1), 0, 1, None)
        self.told((1, 2 ** 99), 0, 1, None)
        self.told((GREATEST // 2, GREATEST // 2 + 1), 0, 1, None)

    def test_thirty_figures_one_by_one(self):
        for first, second in ((3 ** 60, 2 ** 98 - 3 ** 60), (7, 2 ** 99 - 7), (15 * 2 ** 90, 2 ** 90)):
            self.told((first, second), 0, 1, told_end(first, second))

    def test_by_names(self):
        self.assertEqual(ended_by(j=1, i=0, row=(5, 3)), 3)


if __name__ == "__main__":
    unittest.main()
