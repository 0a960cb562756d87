"""As few as can be, of [2], [3] (d) and [8]."""

import itertools
import math
import unittest

from matchgift.gathers import fewest, gather, lessening
from matchgift.plans import after
from matchgift.rows import is_row
from plain import all_that_come, done, how_many_have, mixed, rows_of, shared_out

GREATEST = 10 ** 30 - 1
MOST_RUNS = 200000
# Places, and the greatest sum for which all rows are held against plain going on.
SMALL = ((1, 12), (2, 24), (3, 18), (4, 11), (5, 8))


def told_few(row):
    """How few there are at the least, as [8] words it."""
    measure = math.gcd(*row)
    while measure % 2 == 0:
        measure = measure // 2
    times = sum(row) // measure
    while times % 2 == 0:
        times = times // 2
    return 1 if times == 1 or how_many_have(row) == 1 else 2


class Gathered(unittest.TestCase):
    def told_fewest(self, row, few):
        self.assertEqual(fewest(row), few, row)
        self.assertIs(type(fewest(row)), int)

    def gathered(self, row, few):
        """Its runs done deed by deed leave just so few."""
        self.assertTrue(is_row(row), row)
        self.told_fewest(row, few)
        plan = gather(row)
        self.assertIs(type(plan), tuple)
        self.assertLessEqual(len(plan), MOST_RUNS, row)
        for run in plan:
            self.assertIs(type(run), tuple)
            self.assertEqual([type(part) for part in run], [int] * 3)
        behind = done(row, plan)
        self.assertIsNotNone(behind, row)
        self.assertEqual(how_many_have(behind), few, row)
        self.assertEqual(after(row, plan), behind)
        return plan


class PlainGoingOnTest(Gathered):
    def test_all_small_rows(self):
        for places, most in SMALL:
            for total in range(1, most + 1):
                nexts = {}
                for row in rows_of(places, total):
                    # What comes does not hang on the order of the places; gather is asked of each order.
                    that_come = all_that_come(tuple(sorted(row)), nexts)
                    few = min(how_many_have(behind) for behind in that_come)
                    self.assertEqual(told_few(row), few)
                    self.gathered(row, few)


class KindsOfRowsTest(Gathered):
    def test_one_holder(self):
        for amount in (1, 2, 3, 7, 64, 10 ** 29, GREATEST):
            for row in ((amount,), (amount, 0), (0, 0, amount, 0), (0,) * 11 + (amount,)):
                self.gathered(row, 1)

    def test_two_holders(self):
        self.gathered((1, 1), 1)
        self.gathered((5, 3), 1)
        self.gathered((0, 6, 0, 2), 1)
        self.gathered((3, 9), 1)
        self.gathered((1, 2), 2)
        self.gathered((1, 5), 2)
        self.gathered((0, 4, 8, 0), 2)
        self.gathered((1, 2 ** 99 - 1), 1)
        self.gathered((1, 2 ** 99), 2)
        self.gathered((10 ** 29, 10 ** 29), 1)
        self.gathered((GREATEST - 1, 1), 2)

    def test_all_alike(self):
        for many in range(1, 13):
            for amount in (1, 2, 3, 5, 12, 2 ** 60, 7 ** 33, GREATEST // 12):
                self.gathered((amount,) * many, 1 if many in (1, 2, 4, 8) else 2)

    def test_all_odd(self):
        self.gathered((1, 3, 5), 2)
        self.gathered((1, 3, 5, 7), 1)
        self.gathered((3, 9, 15), 2)
        self.gathered((3, 3, 3, 15), 1)
        self.gathered(tuple(range(1, 25, 2)), 2)
        self.gathered((1,) * 11 + (53,), 1)
        self.gathered(tuple(3 ** place for place in range(12)), 2)

    def test_powers_of_two_together(self):
        for many in (3, 4, 7, 12):
            for power in (4, 5, 10, 50, 99):
                total = 2 ** power
                parts = [1 + pow(3, 5 * place, 97) % max(1, total // 20) for place in range(many - 1)]
                if sum(parts) < total:
                    self.gathered(shared_out(total, parts), 1)
        for measure in (3, 5, 49, 3 ** 20):
            row = shared_out(measure * 2 ** 60, [measure * part for part in (1, 2, 3, 500, 7 ** 20)])
            self.gathered(row, 1)

    def test_a_power_of_two_less_or_more(self):
        for power in (5, 50, 99):
            for beside in (-1, 1):
                self.gathered(shared_out(2 ** power + beside, (2, 3, 4, 5)), 2)

    def test_the_measure_counts(self):
        self.gathered((3, 3, 6), 1)
        self.gathered((1, 5, 6), 2)
        self.gathered((6, 12, 30), 1)
        self.gathered((6, 12, 24), 2)

    def test_holders_who_have_nothing(self):
        self.gathered((0, 5, 0, 6, 0, 5), 1)
        self.gathered((7, 0, 0, 11, 3, 0, 0, 0, 0, 0, 0, 1), 2)


class GreatRowsTest(Gathered):
    def test_thirty_figures(self):
        for many in range(3, 13):
            for seed in range(4):
                row = mixed(seed, many, GREATEST)
                self.gathered(row, told_few(row))

    def test_thirty_figures_with_small_amounts(self):
        for small in ((1, 2), (1, 1), (3, 7), (10 ** 15 + 37, 10 ** 15 + 38), (1, 2, 3, 4, 5), tuple(range(1, 12))):
            self.gathered(shared_out(GREATEST, small), 2)
            self.gathered(shared_out(2 ** 99, small), 1)

    def test_rests_that_are_almost_all(self):
        # Of these the rest by the least amount alone would fall by 1 or so each time.
        for least in (1000, 10 ** 6, 10 ** 15, 10 ** 29, GREATEST // 5):
            for less in (1, 2, 3):
                for greatest in (GREATEST - 3 * least + less, 2 * least - 2):
                    row = (least, 2 * least - less, greatest)
                    self.gathered(row, told_few(row))

    def test_each_the_sum_of_the_two_ahead(self):
        amounts = [1, 1]
        while sum(amounts[-12:]) + sum(amounts[-2:]) <= GREATEST:
            amounts.append(amounts[-1] + amounts[-2])
        for many in (3, 7, 12):
            row = tuple(amounts[-many:])
            self.gathered(row, told_few(row))

    def test_each_twice_as_much(self):
        self.gathered(tuple(2 ** (8 * place) for place in range(12)), 2)
        self.gathered(tuple(2 ** (8 * place) + 1 for place in range(12)), 2)
        self.gathered(tuple(2 ** (9 * place) - 1 for place in range(1, 12)), 2)

    def test_fewest_of_thirty_figures(self):
        self.told_fewest((2 ** 98, 2 ** 97, 2 ** 97), 1)
        self.told_fewest((2 ** 98, 2 ** 97, 2 ** 97 - 1), 2)
        self.told_fewest((5 ** 40, 5 ** 40, 5 ** 40 * 30), 1)
        self.told_fewest((5 ** 40, 5 ** 40, 5 ** 40 * 31), 2)
        self.told_fewest((5 ** 40 + 1, 5 ** 40 - 1, 5 ** 40 * 30), 2)


class LesseningTest(unittest.TestCase):
    """No row is known for which the plan would be too long without this, but its bound rests on it."""

    def halved(self, row):
        steps = lessening(row)
        behind = done(row, [(i, j, 1) for i, j in steps])
        self.assertIsNotNone(behind, row)
        self.assertLessEqual(2 * min(behind), min(row), row)
        self.assertLessEqual(len(steps), 101)

    def test_small_rows(self):
        for row in itertools.product(range(1, 25), repeat=3):
            self.halved(row)
        for row in itertools.product(range(1, 8), repeat=4):
            self.halved(row)

    def test_great_rows(self):
        for seed in range(100):
            self.halved(mixed(seed, 3 + seed % 10, GREATEST))
            self.halved((seed + 1,) + mixed(seed, 2, GREATEST - 101))
        for least in (3, 1000, 10 ** 15 + 1, 10 ** 29):
            for middle in (2 * least - 1, 3 * least - 1, 4 * least - 1, 4 * least // 3):
                self.halved((least, middle, middle))
                self.halved((middle, middle + 1, least))


class HandedInTest(Gathered):
    def test_where_it_is_so_already(self):
        for row, few in (((5,), 1), ((0, 6, 0), 1), ((1, 2), 2), ((0, 3, 0, 2), 2), ((1, 5), 2)):
            self.gathered(row, few)

    def test_by_name(self):
        self.assertEqual(fewest(row=(5, 3)), 1)
        self.assertEqual(how_many_have(done((5, 4, 3), gather(row=(5, 4, 3)))), 2)

    def test_asked_again_the_same_is_told(self):
        row = (5, 4, 0, 3, 9)
        plan = gather(row)
        for _ in range(3):
            self.assertEqual(gather(row), plan)
            self.told_fewest(row, 2)
        self.assertEqual(row, (5, 4, 0, 3, 9))


if __name__ == "__main__":
    unittest.main()
