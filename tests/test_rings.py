"""Rings, of [2], [3] (c) and [6]."""

import itertools
import math
import unittest

from matchgift.errors import GiftError, TooGreat
from matchgift.rings import back_run, deeds_until, ring
from matchgift.runs import ran
from plain import one_deed, whole_walk

MOST = 10 ** 9
MOST_UNTIL = 100000
SMALL_PAIRS = list(itertools.product(range(1, 49), repeat=2))
# Odd numbers near 10 ** 9: primes, squares of primes and products among them.
NEAR_MOST = (999999999, 999999997, 999999995, 999999937, 999999929, 31607 ** 2, 3 ** 18, 999, 5 ** 12)


def told_ring(first, second):
    """The least number of deeds, done one by one, behind which the amounts are there again, or None."""
    stands, behind = whole_walk(first, second)
    return len(stands) if behind == (first, second) else None


def is_least_ring(k, whole):
    """Whether k is the least from 1 such that 1 doubled k times is 1 again by rests by the whole."""
    parts = [part for part in range(1, math.isqrt(k) + 1) if k % part == 0]
    lesser = [k // part for part in parts if part > 1] + [part for part in parts if part < k]
    return pow(2, k, whole) == 1 and not any(pow(2, less, whole) == 1 for less in lesser)


class Asked(unittest.TestCase):
    def refused(self, function, *asked):
        with self.assertRaises(GiftError) as caught:
            function(*asked)
        self.assertIs(type(caught.exception), TooGreat, asked)

    def told(self, function, asked, answer):
        told = function(*asked)
        self.assertEqual(told, answer, asked)
        self.assertIs(type(told), type(answer), asked)


class RingTest(Asked):
    def test_ordinary_pairs(self):
        self.told(ring, ((2, 1), 0, 1), 2)
        self.told(ring, ((1, 4), 0, 1), 4)
        self.told(ring, ((3, 4), 1, 0), 3)
        self.told(ring, ((8, 1, 0, 2, 6), 3, 1), 2)

    def test_all_small_pairs_one_by_one(self):
        for first, second in SMALL_PAIRS:
            many = told_ring(first, second)
            self.told(ring, ((first, second), 0, 1), many)
            self.told(ring, ((first, second), 1, 0), many)
            self.told(ring, ((7, second, 0, first, 1), 3, 1), many)

    def test_amounts_alike(self):
        for amount in (1, 2, 3, 4, 5, 96, 500, MOST // 2):
            self.told(ring, ((amount, amount), 0, 1), None)

    def test_together_a_power_of_two(self):
        for together in (2, 4, 8, 64, 2 ** 20, 2 ** 29):
            for first in (1, together // 2, together - 1):
                self.told(ring, ((first, together - first), 0, 1), None)

    def test_even_and_no_power_of_two(self):
        # The amounts come round, but never to those from before the first deed.
        for first, second in ((1, 5), (5, 7), (3, 9 * 11), (2, 10), (1, 999999997)):
            self.told(ring, ((first, second), 0, 1), None)

    def test_a_common_part(self):
        for first, second, many in ((2, 1, 2), (1, 4, 4), (3, 4, 3), (1, 10, 10), (7, 8, 4), (1, 3, None), (1, 5, None)):
            for part in (2, 3, 4, 5, 6, 7, 12, 30, 2 ** 20, 10 ** 7):
                self.told(ring, ((first * part, second * part), 0, 1), many)

    def test_just_the_most(self):
        # 10 ** 9 is 2 ** 9 * 5 ** 9; by rests by 5 ** 9 doubling goes round all that 5 does not part.
        self.told(ring, ((512, MOST - 512), 0, 1), 4 * 5 ** 8)
        self.told(ring, ((MOST // 5, 4 * (MOST // 5)), 1, 0), 4)
        self.told(ring, ((1, MOST - 1), 0, 1), None)
        self.told(ring, ((MOST // 2, MOST // 2), 0, 1), None)

    def test_one_more_than_the_most(self):
        for first in (1, 2, 512, MOST // 2, MOST // 2 + 1, MOST - 1, MOST):
            self.refused(ring, (first, MOST + 1 - first), 0, 1)
            self.refused(ring, (5, first, 0, MOST + 1 - first), 3, 1)
        self.refused(ring, (MOST, MOST), 0, 1)
        self.refused(ring, (MOST + 1, MOST + 1), 0, 1)
        self.refused(ring, (2 * 10 ** 29, 10 ** 29), 0, 1)

    def test_what_others_have_is_not_asked(self):
        self.told(ring, ((10 ** 29, 2, 1), 1, 2), 2)
        self.told(ring, ((MOST, 2, 0, 1), 3, 1), 2)

    def test_odd_sums_near_the_most(self):
        for together in NEAR_MOST:
            for first in (1, 2, 4):
                row = (first, together - first)
                many = ring(row, 0, 1)
                self.assertTrue(is_least_ring(many, together), row)
                self.assertEqual(ran(row, (0, 1, many)), row)

    def test_a_great_ring_deed_by_deed(self):
        for first, second in ((1, 199998), (5, 99984), (6 * 12, 6 * 50021)):
            many = told_ring(first, second)
            self.assertGreater(many, 100)
            self.told(ring, ((first, second), 0, 1), many)

    def test_by_names(self):
        self.assertEqual(ring(j=1, i=0, row=(1, 4)), 4)

    def test_asked_again_the_same_is_told(self):
        row = (1, 4, 9)
        for _ in range(3):
            self.told(ring, (row, 0, 1), 4)
        self.assertEqual(row, (1, 4, 9))


class BackRunTest(Asked):
    def test_ordinary_pairs(self):
        self.told(back_run, ((2, 1), 0, 1), (0, 1, 1))
        self.told(back_run, ((1, 4), 0, 1), (0, 1, 3))
        self.told(back_run, ((1, 4), 1, 0), (1, 0, 3))
        self.told(back_run, ((4, 0, 9, 3), 3, 0), (3, 0, 2))
        self.told(back_run, ((5, 3), 0, 1), None)
        self.told(back_run, ((4, 4), 0, 1), None)
        self.told(back_run, ((1, 5), 0, 1), None)

    def test_all_small_pairs_one_by_one(self):
        for ahead in SMALL_PAIRS:
            stands, _ = whole_walk(*one_deed(*ahead))
            # None of the amounts stands twice in the walk, so the place is the least.
            back = (0, 1, stands.index(ahead)) if ahead in stands else None
            self.told(back_run, (ahead, 0, 1), back)
            self.told(back_run, ((6, ahead[1], 0, ahead[0]), 3, 1), None if back is None else (3, 1, back[2]))

    def test_the_row_stands_as_ahead_and_by_no_lesser_run(self):
        for first, second in SMALL_PAIRS:
            row = (5, first, second, 8)
            run = back_run(row, 1, 2)
            if run is not None:
                behind = ran(row, (1, 2, 1))
                self.assertEqual(ran(behind, run), row)
                for less in range(run[2]):
                    self.assertNotEqual(ran(behind, (1, 2, less)), row)

    def test_its_parts_are_whole_numbers(self):
        self.assertEqual([type(part) for part in back_run((1, 4), 0, 1)], [int] * 3)

    def test_just_the_most_and_one_more(self):
        row = (512, MOST - 512)
        self.told(back_run, (row, 0, 1), (0, 1, 4 * 5 ** 8 - 1))
        self.assertEqual(ran(ran(row, (0, 1, 1)), (0, 1, 4 * 5 ** 8 - 1)), row)
        self.told(back_run, ((1, MOST - 1), 0, 1), None)
        for first in (1, 2, 512, MOST // 2, MOST):
            self.refused(back_run, (first, MOST + 1 - first), 0, 1)
            self.refused(back_run, (9, MOST + 1 - first, 0, first), 1, 3)
        self.refused(back_run, (MOST, MOST), 0, 1)
        self.told(back_run, ((10 ** 29, 2, 1), 1, 2), (1, 2, 1))

    def test_odd_sums_near_the_most(self):
        for together in NEAR_MOST:
            row = (2, together - 2)
            i, j, k = back_run(row, 1, 0)
            self.assertEqual((i, j), (1, 0))
            self.assertTrue(is_least_ring(k + 1, together), row)
            self.assertEqual(ran(ran(row, (1, 0, 1)), (i, j, k)), row)

    def test_by_names(self):
        self.assertEqual(back_run(j=1, i=0, row=(1, 4)), (0, 1, 3))


class DeedsUntilTest(Asked):
    def test_ordinary_pairs(self):
        self.told(deeds_until, ((5, 3), 0, 1, 6), 1)
        self.told(deeds_until, ((5, 3), 0, 1, 4), 2)
        self.told(deeds_until, ((5, 3), 0, 1, 5), None)
        self.told(deeds_until, ((1, 4), 1, 0, 3), 3)
        self.told(deeds_until, ((9, 0, 1, 4), 2, 3, 1), 2)

    def test_all_small_pairs_one_by_one(self):
        for first, second in itertools.product(range(1, 25), repeat=2):
            stands, _ = whole_walk(first, second)
            counts = [amounts[1] for amounts in stands]
            for amount in range(1, first + second + 3):
                many = counts.index(amount) if amount in counts else None
                self.told(deeds_until, ((first, second), 0, 1, amount), many)
                self.told(deeds_until, ((second, 7, first, 0), 2, 0, amount), many)

    def test_an_amount_that_is_there_already(self):
        for first, second in SMALL_PAIRS + [(1, 99999), (99999, 1), (50000, 50000)]:
            self.told(deeds_until, ((first, second), 0, 1, second), 0)
            self.told(deeds_until, ((first, second), 1, 0, first), 0)

    def test_both_together(self):
        self.told(deeds_until, ((5, 3), 0, 1, 8), 3)
        self.told(deeds_until, ((5, 3), 1, 0, 8), 3)
        self.told(deeds_until, ((4, 4), 0, 1, 8), 1)
        self.told(deeds_until, ((4, 4), 1, 0, 8), 1)
        self.told(deeds_until, ((1, 65535), 0, 1, 65536), 16)
        self.told(deeds_until, ((12, 36), 1, 0, 48), 2)
        self.told(deeds_until, ((5, 4), 0, 1, 9), None)
        self.told(deeds_until, ((1, 5), 0, 1, 6), None)

    def test_an_amount_that_never_comes(self):
        self.told(deeds_until, ((1, 5), 1, 0, 5), None)
        self.told(deeds_until, ((1, 6), 0, 1, 4), None)
        self.told(deeds_until, ((3, 6), 0, 1, 1), None)
        for amount in (10, 11, 100001, 10 ** 29, 10 ** 30 - 1):
            self.told(deeds_until, ((5, 4), 0, 1, amount), None)
            self.told(deeds_until, ((4, 4), 0, 1, amount), None)

    def test_just_the_most_and_one_more(self):
        self.told(deeds_until, ((1, MOST_UNTIL - 1), 0, 1, MOST_UNTIL - 1024), 10)
        self.told(deeds_until, ((1, MOST_UNTIL - 1), 0, 1, MOST_UNTIL), None)
        self.told(deeds_until, ((50000, 50000), 0, 1, MOST_UNTIL), 1)
        for first in (1, 2, 50000, 50001, MOST_UNTIL):
            second = MOST_UNTIL + 1 - first
            for amount in (1, first, second, 2 * first, MOST_UNTIL + 1, 10 ** 29):
                self.refused(deeds_until, (first, second), 0, 1, amount)
                self.refused(deeds_until, (3, second, 0, first), 3, 1, amount)
        self.refused(deeds_until, (MOST_UNTIL, MOST_UNTIL), 0, 1, 2 * MOST_UNTIL)
        self.refused(deeds_until, (10 ** 29, 10 ** 29), 0, 1, 1)

    def test_what_others_have_is_not_asked(self):
        self.told(deeds_until, ((10 ** 29, 5, 3), 1, 2, 6), 1)

    def test_long_walks_deed_by_deed(self):
        # 99989 goes round by as many deeds as there can be at the most, 100000 = 32 * 3125 has a tail.
        for first, second in ((1, 99988), (1, 99999), (40003, 59997), (99970, 1)):
            stands, _ = whole_walk(first, second)
            for k in (0, 1, 5, 1000, len(stands) // 2, len(stands) - 2, len(stands) - 1):
                self.told(deeds_until, ((first, second), 0, 1, stands[k][1]), k)

    def test_the_run_leads_there(self):
        for first, second in SMALL_PAIRS[::7]:
            for amount in range(1, first + second + 1):
                many = deeds_until((first, second), 0, 1, amount)
                if many is not None:
                    self.assertEqual(ran((first, second), (0, 1, many)), (first + second - amount, amount))

    def test_by_names(self):
        self.assertEqual(deeds_until(amount=8, j=1, i=0, row=(5, 3)), 3)

    def test_asked_again_the_same_is_told(self):
        row = (5, 3, 9)
        for _ in range(3):
            self.told(deeds_until, (row, 0, 1, 4), 2)
        self.assertEqual(row, (5, 3, 9))


if __name__ == "__main__":
    unittest.main()
