"""What stays, of [5]."""

import itertools
import math
import unittest

from matchgift.measures import measure, odd_ones, odd_part, twos, twos_in, unit
from matchgift.rows import after_deed, deeds

GREATEST = 10 ** 30 - 1
SMALL_ROWS = [
    row for many in (1, 2, 3) for row in itertools.product(range(13), repeat=many) if sum(row) > 0
]


def told_twos(n):
    """How often 2 parts n, by parting it."""
    many = 0
    while n % 2 == 0:
        n = n // 2
        many += 1
    return many


class NumberTest(unittest.TestCase):
    def both(self, n, many, odd):
        self.assertEqual(twos_in(n), many, n)
        self.assertEqual(odd_part(n), odd, n)
        self.assertEqual([type(twos_in(n)), type(odd_part(n))], [int, int])

    def test_odd_numbers(self):
        for n in (1, 3, 5, 7, 99, 12345, GREATEST):
            self.both(n, 0, n)

    def test_powers_of_two(self):
        for many in range(0, 100):
            self.both(2 ** many, many, 1)

    def test_powers_of_two_times_odd_numbers(self):
        for many in range(0, 60):
            for odd in (3, 5, 7, 81, 10 ** 9 + 7):
                self.both(odd * 2 ** many, many, odd)

    def test_beside_powers_of_two(self):
        for many in range(2, 99):
            self.both(2 ** many + 1, 0, 2 ** many + 1)
            self.both(2 ** many - 2, 1, 2 ** (many - 1) - 1)

    def test_each_small_number(self):
        for n in range(1, 2000):
            self.both(n, told_twos(n), n // 2 ** told_twos(n))

    def test_thirty_figures(self):
        self.both(10 ** 29, 29, 5 ** 29)
        self.both(GREATEST - 1, 1, (GREATEST - 1) // 2)
        self.both(2 ** 99, 99, 1)
        self.both(3 * 2 ** 98, 98, 3)

    def test_by_name(self):
        self.assertEqual(twos_in(n=12), 2)
        self.assertEqual(odd_part(n=12), 3)


class RowTest(unittest.TestCase):
    def told(self, row, the_unit, the_measure, the_twos, the_odd_ones):
        told = (unit(row), measure(row), twos(row), odd_ones(row))
        self.assertEqual(told, (the_unit, the_measure, the_twos, the_odd_ones), row)
        self.assertEqual([type(number) for number in told], [int] * 4)

    def test_all_odd(self):
        self.told((3, 5, 7), 1, 1, 0, 3)
        self.told((9, 15, 21), 3, 3, 0, 3)

    def test_all_even(self):
        self.told((4, 6, 8), 2, 1, 1, 1)
        self.told((12, 20, 24), 4, 1, 2, 2)
        self.told((12, 36, 24), 12, 3, 2, 2)
        self.told((2, 4, 8), 2, 1, 1, 1)

    def test_odd_and_even(self):
        self.told((1, 2, 4), 1, 1, 0, 1)
        self.told((5, 10, 15, 20), 5, 5, 0, 2)

    def test_all_alike(self):
        self.told((7,) * 12, 7, 7, 0, 12)
        self.told((8,) * 12, 8, 1, 3, 12)
        self.told((12, 12), 12, 3, 2, 2)

    def test_one_holder(self):
        self.told((1,), 1, 1, 0, 1)
        self.told((24,), 24, 3, 3, 1)
        self.told((0, 24, 0), 24, 3, 3, 1)
        self.told((64,), 64, 1, 6, 1)

    def test_holders_who_have_nothing(self):
        self.told((0, 3, 0, 5), 1, 1, 0, 2)
        self.told((4, 0, 0, 12), 4, 1, 2, 2)
        self.told((0, 10, 20), 10, 5, 1, 1)
        self.told((10, 20, 0), 10, 5, 1, 1)

    def test_the_unit_is_of_all_amounts(self):
        self.told((6, 10, 15), 1, 1, 0, 1)
        self.told((12, 20, 30), 2, 1, 1, 1)

    def test_thirty_figures(self):
        self.told((2 ** 98, 2 ** 97, 2 ** 97), 2 ** 97, 1, 97, 2)
        self.told((10 ** 29, 3 * 10 ** 29), 10 ** 29, 5 ** 29, 29, 2)
        self.told((GREATEST,), GREATEST, GREATEST, 0, 1)
        self.told((GREATEST // 3, 2 * (GREATEST // 3)), GREATEST // 3, GREATEST // 3, 0, 1)

    def test_each_small_row(self):
        for row in SMALL_ROWS:
            amounts = [amount for amount in row if amount != 0]
            greatest = math.gcd(*row)
            many = told_twos(greatest)
            odd = len([amount for amount in amounts if amount % 2 ** (many + 1) != 0])
            self.told(row, greatest, greatest // 2 ** many, many, odd)

    def test_the_unit_is_measure_and_twos_put_together(self):
        for row in SMALL_ROWS:
            self.assertEqual(unit(row), measure(row) * 2 ** twos(row))

    def test_what_a_deed_keeps(self):
        for row in SMALL_ROWS:
            for i, j in deeds(row):
                behind = after_deed(row, i, j)
                self.assertEqual((sum(behind), measure(behind)), (sum(row), measure(row)))
                self.assertGreaterEqual(twos(behind), twos(row))
                if twos(behind) == twos(row):
                    self.assertLessEqual(odd_ones(behind), odd_ones(row))

    def test_by_name(self):
        self.assertEqual(unit(row=(12, 20)), 4)
        self.assertEqual(measure(row=(12, 36)), 3)
        self.assertEqual(twos(row=(12, 20)), 2)
        self.assertEqual(odd_ones(row=(12, 20)), 2)


if __name__ == "__main__":
    unittest.main()
