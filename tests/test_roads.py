"""Roads, of [2], [3] (a), (b) and [10]."""

import itertools
import unittest

from matchgift.errors import GiftError, TooGreat
from matchgift.plans import after, deeds_in, shows_plan
from matchgift.roads import road
from plain import all_that_come, behind_deeds, done, how_many_have, jumped, mixed, rows_of, shared_out
from worded import told_broken, told_stays

MOST = 10 ** 9
MOST_OF_PAIR = 100000
MOST_RUNS = 200000
# A road of at most so many deeds is done deed by deed, too.
FEW_DEEDS = 3000
# Places, and the greatest sum for which all rows are held, each beside each, against plain going on.
SMALL = ((1, 9), (2, 24), (3, 11), (4, 8), (5, 6), (6, 6))
# Likewise, but as the first row such alone whose amounts rise.
SMALL_RISING = ((3, 12), (3, 13), (3, 18), (4, 10), (5, 8), (6, 8), (7, 8))


class Roads(unittest.TestCase):
    def is_road(self, row, other, plan):
        """A plan by its form that leads there, by the program's own judge and without it."""
        self.assertIs(type(plan), tuple, (row, other))
        self.assertLessEqual(len(plan), MOST_RUNS, (row, other))
        for run in plan:
            self.assertIs(type(run), tuple)
            self.assertEqual([type(part) for part in run], [int] * 3)
        self.assertEqual(after(row, plan), other, (row, other))
        self.assertEqual(jumped(row, plan), other, (row, other))
        self.assertIs(shows_plan(row, other, plan), True)
        if deeds_in(plan) <= FEW_DEEDS:
            self.assertEqual(done(row, plan), other, (row, other))

    def leads(self, row, other):
        self.is_road(row, other, road(row, other))

    def lets(self, row, other):
        """A road just where no clause is broken, of rows in which at least three have something."""
        if told_broken(row, other, ()) == ():
            self.leads(row, other)
        else:
            self.assertIsNone(road(row, other), (row, other))

    def refused(self, row, other):
        with self.assertRaises(GiftError) as caught:
            road(row, other)
        self.assertIs(type(caught.exception), TooGreat, (row, other))

    def each_beside_each(self, places, total, rising):
        rows = rows_of(places, total)
        nexts = {}
        for row in rows:
            if rising and row != tuple(sorted(row)):
                continue
            that_come = all_that_come(row, nexts)
            for other in rows:
                if other in that_come:
                    self.leads(row, other)
                else:
                    self.assertIsNone(road(row, other), (row, other))


class PlainGoingOnTest(Roads):
    def test_all_small_rows_each_beside_each(self):
        for places, most in SMALL:
            for total in range(1, most + 1):
                self.each_beside_each(places, total, False)

    def test_rising_small_rows(self):
        for places, most in SMALL_RISING:
            self.each_beside_each(places, most, True)

    def test_unlike_sums_and_places(self):
        rows = [row for places in (1, 2, 3, 4) for row in rows_of(places, 6 - places)]
        for row, other in itertools.product(rows, repeat=2):
            if len(row) != len(other) or sum(row) != sum(other):
                self.assertIsNone(road(row, other))

    def test_multiples_of_small_rows(self):
        # A common part is no hindrance, however great.
        for times in (2, 3, 4, 12, 10 ** 7):
            for row, other in itertools.product(rows_of(3, 7), repeat=2):
                row = tuple(times * amount for amount in row)
                other = tuple(times * amount for amount in other)
                if how_many_have(row) > 2:
                    self.lets(row, other)


class KindsOfRowsTest(Roads):
    def rows_of_sum(self, total, many):
        """Rows of the sum in which so many have something, of several kinds."""
        rows = [
            shared_out(total, [1] * (many - 1)),
            shared_out(total, [2] * (many - 1)),
            shared_out(total, [1 + place % 2 for place in range(many - 1)]),
            shared_out(total, [2 * place + 3 for place in range(many - 1)]),
            shared_out(total, [total // many] * (many - 1)),
            shared_out(total, mixed(7, many, total)[:many - 1]),
            shared_out(total, [2 * (amount // 2) + 2 for amount in mixed(8, many, total - 2 * many)[:many - 1]]),
            shared_out(total, [amount | 1 for amount in mixed(9, many, total - many)[:many - 1]]),
            shared_out(total, [4 * (amount // 4) + 4 for amount in mixed(5, many, total - 4 * many)[:many - 1]]),
        ]
        return [row for row in rows if min(row) > 0]

    def test_three_to_twelve_holders(self):
        for many in range(3, 13):
            for total in (6 * many + 1, 6 * many + 6, 1000, 1001):
                rows = self.rows_of_sum(total, many)
                for row, other in itertools.product(rows, repeat=2):
                    self.lets(row, other)
                    self.lets(row, other[::-1])

    def test_all_odd(self):
        for many in range(3, 13):
            for row in (tuple(range(1, 2 * many, 2)), (1,) * (many - 1) + (31,), (3,) * (many - 1) + (7,)):
                total = sum(row)
                self.leads(row, row)
                self.leads(row, shared_out(total, [2] * (many - 1)))
                self.lets(row, shared_out(total, [1] * (many - 1)))
                self.lets(row, shared_out(total, [1] * (many - 2)) + (0,))
                self.lets(row, (0,) + shared_out(total, [2] * (many - 2)))
                self.lets(row, shared_out(total, [2]) + (0,) * (many - 2))

    def test_all_alike(self):
        for many in range(3, 13):
            for amount in (1, 2, 3, 8, 9, 1000, MOST // 12):
                row, total = (amount,) * many, amount * many
                self.leads(row, row)
                self.leads(row, (0, 2 * amount) + row[2:])
                self.leads(row, row[2:] + (2 * amount, 0))
                self.lets(row, (2 * amount, total - 2 * amount) + (0,) * (many - 2))
                self.lets(row, (0,) * (many - 1) + (total,))
                self.lets(row, shared_out(total, [2 * amount] * (many // 2 - 1)) + (0,) * (many - many // 2))

    def test_one_odd_one(self):
        for many in range(3, 13):
            row = tuple(2 * place + 2 for place in range(many - 1)) + (7,)
            for behind in itertools.islice(itertools.permutations(row), 0, 100, 9):
                self.leads(row, behind)
            total = sum(row)
            for place in range(many):
                wide = [2] * many
                wide[place] = total - 2 * many + 2
                self.leads(row, tuple(wide))
            self.leads(row, (2, total - 2) + (0,) * (many - 2))
            self.leads(row, (total - 1, 1) + (0,) * (many - 2))

    def test_powers_of_two(self):
        for many in range(3, 13):
            row = tuple(2 ** place for place in range(many))
            self.leads(row, row[::-1])
            self.leads(row, (sum(row) - 2, 2) + (0,) * (many - 2))
            self.lets(row, (0,) * (many - 1) + (sum(row),))
            row = row[:-1] + (2 ** many + 1 + row[-1],)
            for power in range(1, 4):
                self.lets(row, (2 ** power, sum(row) - 2 ** power) + (0,) * (many - 2))
        for power in range(4, 30):
            row = (1, 2, 2 ** power - 3)
            for place in range(3):
                one = [0, 0, 0]
                one[place] = 2 ** power
                self.leads(row, tuple(one))
            for half in range(1, power):
                self.leads(row, (2 ** half, 0, 2 ** power - 2 ** half))

    def test_who_has_nothing_beside(self):
        for row, other in itertools.product(rows_of(4, 7), repeat=2):
            if how_many_have(row) > 2:
                self.lets((0,) + row[:2] + (0, 0) + row[2:] + (0,), (0,) + other[:2] + (0, 0) + other[2:] + (0,))
        self.assertIsNone(road((3, 4, 0, 5), (2, 4, 1, 5)))
        self.assertIsNone(road((0, 3, 4, 5), (5, 3, 4, 0)))

    def test_to_fewer_odd_ones(self):
        for many in range(4, 13):
            row = (1,) * (many - 1) + (2 * many,)
            total = sum(row)
            for odd in range(1 - total % 2, many):
                other = shared_out(total, [1] * odd + [2] * (many - 1 - odd))
                self.lets(row, other)
                self.lets(row, other[::-1])

    def test_to_more_twos(self):
        for many in range(3, 13):
            for more in range(1, 9):
                part = 2 ** more
                row = shared_out(part * 3 * many, [1, 3] + [2] * (many - 3))
                for few in range(2, many + 1):
                    other = shared_out(3 * many, [1] * (few - 1)) + (0,) * (many - few)
                    self.leads(row, tuple(part * amount for amount in other))
                    other = shared_out(3 * many, [2] * (few - 1)) + (0,) * (many - few)
                    self.leads(row, tuple(part * amount for amount in other)[::-1])

    def test_what_deeds_make(self):
        for seed in range(12):
            row = mixed(seed, 3 + seed % 10, MOST)
            behind = row
            for step in range(40):
                choices = behind_deeds(behind)
                behind = choices[step * step % len(choices)]
            self.leads(row, behind)


class GreatRowsTest(Roads):
    def others_of_sum(self, total, places):
        """Rows of the sum to go to: wide ones, ones of two and of one holder, ones of more twos."""
        others = [
            shared_out(total, [1] * (places - 1)), shared_out(total, [2] * (places - 1)),
            (0,) + shared_out(total, [2] * (places - 2)), (2, total - 2) + (0,) * (places - 2),
            (0,) * (places - 2) + (total // 2 + 1, (total - 1) // 2), (total,) + (0,) * (places - 1),
            (0,) * (places - 2) + (total // 5 * 2, total - total // 5 * 2),
            shared_out(total, mixed(3, places, total)[:places - 1]),
        ]
        part = 2
        while total % part == 0 and total // part >= places:
            others.append(shared_out(total, [part] * (places - 1)))
            others.append((total - part,) + (0,) * (places - 2) + (part,))
            part *= 2
        return others

    def to_all_others(self, total, many):
        for seed in range(2):
            row = shared_out(total, mixed(seed, many, total)[:many - 1])
            self.assertEqual(sum(row), total)
            for other in self.others_of_sum(total, many):
                self.lets(row, other)

    def test_just_the_most(self):
        for many in (3, 4, 5, 6):
            self.to_all_others(MOST, many)

    def test_twelve_holders_with_just_the_most(self):
        row = shared_out(MOST, mixed(4, 12, MOST)[:11])
        self.lets(row, row[::-1])
        self.lets(row, shared_out(MOST, [2 ** 7] * 11))
        self.lets(row, (0,) * 10 + (MOST - 2 ** 8, 2 ** 8))
        self.lets((2,) * 11 + (MOST - 22,), (MOST - 22,) + (2,) * 11)

    def test_millions(self):
        for total in (10 ** 6, 2 ** 20, 3 * 10 ** 6 + 1, 2 ** 29, MOST - 63):
            self.to_all_others(total, 3)
            self.to_all_others(total, 5)

    def test_each_the_sum_of_the_two_ahead(self):
        amounts = [1, 1]
        while sum(amounts[-3:]) + sum(amounts[-2:]) <= MOST:
            amounts.append(amounts[-1] + amounts[-2])
        row = tuple(amounts[-3:])
        self.lets(row, row[::-1])
        self.lets(row, (2, sum(row) - 4, 2))
        self.lets(row, (1, sum(row) - 3, 2))

    def test_amounts_that_fall_slowly(self):
        # The rest of the second amount by twice the first one is little, or almost all.
        for odd, times, beside in itertools.product((3 ** 12, 10 ** 7 + 1), (2, 4, 10), (-4, -2, 2, 4)):
            row = (odd, odd * times + beside, odd + 2)
            for other in ((2, 3, sum(row) - 5), (1, 2, sum(row) - 3)):
                self.lets(row, other)
                self.lets(other, row)
                self.lets(other, row[::-1])

    def test_few_runs(self):
        # Longer ones than a thousand runs weren't seen for twelve holders with 10 ** 9.
        row = shared_out(MOST, [amount | 1 for amount in mixed(6, 12, MOST - 24)[:11]])
        other = shared_out(MOST, [amount | 1 for amount in mixed(1, 12, MOST - 24)[:10]] + [MOST // 16])
        self.assertEqual(told_broken(row, other, ()), ())
        plan = road(row, other)
        self.is_road(row, other, plan)
        self.assertLess(len(plan), 5000)


class FewHoldersTest(Roads):
    def test_one_holder(self):
        for amount in (1, 2, 7, 100000, 100001, MOST):
            for row in ((amount,), (0, amount), (0, 0, amount, 0)):
                self.assertEqual(road(row, row), ())
            self.assertIsNone(road((amount, 0), (0, amount)))
            self.assertIsNone(road((amount,), (amount + 1,)))
            self.assertIsNone(road((0, amount), (amount,)))

    def test_two_holders(self):
        self.leads((5, 3), (2, 6))
        self.leads((5, 3), (0, 8))
        self.leads((5, 3), (8, 0))
        self.leads((0, 4, 0, 4), (0, 8, 0, 0))
        self.leads((0, 4, 0, 4), (0, 0, 0, 8))
        self.assertIsNone(road((1, 6), (3, 4)))
        self.assertIsNone(road((2, 6), (5, 3)))

    def test_two_holders_with_just_the_most_of_a_pair(self):
        self.leads((1, 99999), (65536, 34464))
        self.leads((1, 99999), (1, 99999))
        self.leads((50000, 0, 50000), (0, 0, MOST_OF_PAIR))
        self.assertIsNone(road((1, 99999), (6, 99994)))
        self.assertIsNone(road((1, 99999), (3, 99997)))
        self.assertIsNone(road((1, 99999), (1, 99998)))
        behind = (1, 99988)
        for _ in range(5000):
            behind = behind_deeds(behind)[0]
        self.leads((1, 99988), behind)

    def test_one_more(self):
        self.refused((1, 100000), (2, 99999))
        self.refused((1, 100000), (100000, 1))
        self.refused((0, 50001, 0, 50001), (0, 100002, 0, 0))
        self.refused((MOST // 2, MOST // 2), (0, MOST))
        # The clause pair isn't asked of these.
        self.assertEqual(road((1, 100000), (1, 100000)), ())
        self.assertIsNone(road((1, 100000), (1, 100002)))
        self.assertIsNone(road((1, 100000), (1, 100000, 0)))
        self.assertIsNone(road((1, 100000), (11, 99990)))
        self.assertIsNone(road((1, 100001), (5, 99997)))
        self.assertIsNone(road((1, 100000, 0), (1, 99998, 2)))
        self.assertIsNone(road((MOST - 1, 1), (MOST - 3, 3)))

    def test_two_holders_behind_three_with_more_than_a_pair(self):
        self.leads((1, 2, 10 ** 8), (2, 0, 10 ** 8 + 1))
        self.leads((MOST // 4, MOST // 4, MOST // 2), (0, 0, MOST))


class TooGreatTest(Roads):
    def test_one_more_than_the_most(self):
        for row in ((MOST + 1,), (1, MOST), (0, 1, MOST), (1, 2, MOST - 2), (MOST, MOST, MOST), (10 ** 29,) * 3):
            for other in (row, row[::-1], (1, 2, 3), (1,), row + (0,), (2,) + row[1:], (sum(row),)):
                self.refused(row, other)

    def test_just_the_most(self):
        self.assertEqual(road((1, 2, MOST - 3), (1, 2, MOST - 3)), ())
        self.assertEqual(road((MOST,), (MOST,)), ())
        self.leads((1, 2, MOST - 3), (2, 1, MOST - 3))
        self.assertIsNone(road((1, 2, MOST - 3), (1, 2, MOST - 2)))
        # It is the row's sum that counts.
        self.assertIsNone(road((1, 2, 3), (1, 2, MOST)))
        self.assertIsNone(road((1, 2, 3), (10 ** 29, 2, 3)))


class HandedInTest(Roads):
    def test_of_the_same_row(self):
        for row in ((1, 2, 3), (1, 3, 5), (0, 2, 2, 2), (5, 3), (7,)):
            self.is_road(row, row, road(row, tuple(list(row))))

    def test_by_names(self):
        self.is_road((1, 2, 5), (2, 2, 4), road(other=(2, 2, 4), row=(1, 2, 5)))
        self.assertIsNone(road(other=(1, 2, 5), row=(2, 2, 4)))

    def test_asked_again_the_same_is_told(self):
        row, other = (9, 4, 0, 3, 8), (0, 0, 0, 22, 2)
        plan = road(row, other)
        for _ in range(3):
            self.assertEqual(road(row, other), plan)
        self.assertEqual((row, other), ((9, 4, 0, 3, 8), (0, 0, 0, 22, 2)))
        self.assertEqual(told_stays(row)[0], 1)

    def test_two_roads_one_behind_the_other(self):
        first, second, third = (9, 4, 3, 8), (3, 4, 9, 8), (16, 0, 6, 2)
        self.is_road(first, third, road(first, second) + road(second, third))
        self.is_road(first, first, road(first, second) + road(second, first))


if __name__ == "__main__":
    unittest.main()
