"""How many rows come, of [2], [3] (e) and [12]."""

import itertools
import math
import unittest
from collections import Counter

from matchgift.counts import how_many, how_many_at, how_many_so
from matchgift.errors import GiftError, TooFew, TooGreat
from plain import all_that_come, how_many_have, rows_of, shared_out
from worded import told_broken, told_stays

MOST = 10 ** 12
GREATEST = 10 ** 30 - 1
# Places, and the greatest sum for which all rows are held against plain going on.
SMALL = ((3, 14), (4, 8), (5, 7), (6, 6))


def all_places(row):
    """All rising tuples of places of the row, but ()."""
    return [chosen for many in range(1, len(row) + 1) for chosen in itertools.combinations(range(len(row)), many)]


def who_has(row):
    return tuple(place for place in range(len(row)) if row[place] != 0)


def without_common_part(total):
    """In how many ways three have something each, the total together, without a common part but 1."""
    primes = [prime for prime in (2, 3, 5, 7, 11, 13) if total % prime == 0]
    left = total
    for prime in primes:
        while left % prime == 0:
            left //= prime
    assert left == 1
    many = 0
    for taken in itertools.product((0, 1), repeat=len(primes)):
        part = math.prod(prime for prime, is_taken in zip(primes, taken) if is_taken)
        many += (-1) ** sum(taken) * math.comb(total // part - 1, 2)
    return many


class Counts(unittest.TestCase):
    def told(self, many, function, *asked):
        told = function(*asked)
        self.assertEqual(told, many, asked)
        self.assertIs(type(told), int)

    def held(self, row, that_come):
        """All three counts are those of the rows that come."""
        at = Counter(who_has(behind) for behind in that_come)
        so = Counter((who_has(behind),) + told_stays(behind)[1:3] for behind in that_come)
        self.told(len(that_come), how_many, row)
        most_twos = sum(row).bit_length()
        for places in all_places(row):
            self.told(at[places], how_many_at, row, places)
            for many_twos, many_odd in itertools.product(range(most_twos + 1), range(len(row) + 2)):
                self.told(so[places, many_twos, many_odd], how_many_so, row, places, many_twos, many_odd)

    def sums_up(self, row):
        """The whole is the sum of what is told by places, and this of what is told by twos and odd ones."""
        most_twos = 0
        while sum(row) % 2 ** most_twos == 0:
            most_twos += 1
        at = {places: how_many_at(row, places) for places in all_places(row)}
        self.assertEqual(how_many(row), sum(at.values()), row)
        for many in range(1, len(row) + 1):
            places = max(places for places in at if len(places) == many)
            counts = [
                how_many_so(row, places, many_twos, many_odd)
                for many_twos in range(most_twos + 1) for many_odd in range(1, many + 1)
            ]
            self.assertEqual(at[places], sum(counts), (row, places))

    def refused(self, refusal, row):
        for function, asked in ((how_many, (row,)), (how_many_at, (row, (0,))), (how_many_so, (row, (0,), 0, 1))):
            with self.assertRaises(GiftError) as caught:
                function(*asked)
            self.assertIs(type(caught.exception), refusal, row)


class PlainGoingOnTest(Counts):
    def test_small_rows(self):
        for places, most in SMALL:
            for total in range(3, most + 1):
                nexts = {}
                for row in rows_of(places, total):
                    if how_many_have(row) > 2 and row == tuple(sorted(row)):
                        self.held(row, all_that_come(row, nexts))

    def test_whole_of_all_small_rows(self):
        for row in rows_of(3, 12) + rows_of(4, 8) + rows_of(5, 6):
            if how_many_have(row) > 2:
                self.told(len(all_that_come(row)), how_many, row)

    def test_who_has_nothing_beside(self):
        for row in ((0, 3, 4, 5), (3, 0, 4, 0, 5), (2, 2, 0, 2), (0, 0, 1, 1, 1)):
            self.held(row, all_that_come(row))

    def test_rows_by_their_clauses(self):
        # So great that all rows of the sum are asked by the clauses, not by deeds.
        for row in ((30, 31, 29), (15, 15, 60), (40, 40, 41), (36, 18, 27), (45, 25, 20), (90, 3, 3), (1, 1, 94)):
            self.held(row, [other for other in rows_of(3, sum(row)) if told_broken(row, other, ()) == ()])
        for row in ((7, 5, 9, 3), (6, 6, 6, 12), (1, 2, 3, 24), (15, 3, 6, 6)):
            self.held(row, [other for other in rows_of(4, sum(row)) if told_broken(row, other, ()) == ()])


class EachCountTest(Counts):
    def test_a_row_of_odd_ones_alone_is_among_them(self):
        self.told(1, how_many_so, (1, 1, 1), (0, 1, 2), 0, 3)
        self.told(7, how_many, (1, 1, 1))
        self.told(1, how_many_at, (1, 1, 1), (0, 1, 2))
        self.told(2, how_many_at, (1, 1, 1), (1, 2))
        self.told(1, how_many_so, (2, 6, 10), (0, 1, 2), 1, 3)
        self.told(1, how_many_so, (3, 9, 15, 0), (0, 1, 2), 0, 3)
        self.told(0, how_many_so, (1, 3, 6), (0, 1, 2), 0, 3)

    def test_places_of_which_one_has_nothing(self):
        for places in ((0,), (0, 1), (1, 4), (1, 2, 3, 4), (0, 1, 2, 3, 4)):
            self.told(0, how_many_at, (0, 3, 4, 5, 0), places)
            for many_twos, many_odd in itertools.product(range(4), range(6)):
                self.told(0, how_many_so, (0, 3, 4, 5, 0), places, many_twos, many_odd)

    def test_more_twos_than_any_row_has(self):
        row = (1, 2, 5)
        self.told(1, how_many_so, row, (0,), 3, 1)
        for many_twos in (4, 5, 100, 10 ** 29, GREATEST):
            for places in all_places(row):
                for many_odd in range(4):
                    self.told(0, how_many_so, row, places, many_twos, many_odd)

    def test_more_odd_ones_than_any_row_has(self):
        for row in ((1, 2, 5), (4, 4, 4), (1, 1, 1, 1)):
            for places in all_places(row):
                for many_odd in (0, len(places) + 1, 13, 10 ** 29, GREATEST):
                    for many_twos in (0, 1, 2, GREATEST):
                        self.told(0, how_many_so, row, places, many_twos, many_odd)

    def test_fewer_twos_than_the_row_has(self):
        for many_twos in (0, 1):
            for many_odd in range(4):
                self.told(0, how_many_so, (4, 8, 12), (0, 1, 2), many_twos, many_odd)

    def test_one_holder(self):
        self.told(1, how_many_at, (1, 2, 5), (2,))
        self.told(0, how_many_at, (1, 2, 6), (2,))
        self.told(1, how_many_at, (3, 6, 15), (0,))


class GreatSumsTest(Counts):
    def test_just_the_most(self):
        # Of an even sum three amounts without a common part are two odd ones and an even one.
        ways = [without_common_part(MOST >> many) for many in range(13)]
        row = (1, 2, MOST - 3)
        for many_twos in range(12):
            self.told(ways[many_twos], how_many_so, row, (0, 1, 2), many_twos, 2)
        # 5 ** 12 alone is odd, so three may have odd amounts, or one.
        one_odd = how_many_so(row, (0, 1, 2), 12, 1)
        self.told(ways[12] - one_odd, how_many_so, row, (0, 1, 2), 12, 3)
        self.told(sum(ways), how_many_at, row, (0, 1, 2))
        self.sums_up(row)

    def test_sums_up(self):
        rows = [
            (1, 2, MOST - 3), (MOST // 4, MOST // 4, MOST // 2), (2 ** 39 - 3, 1, 2), (1, 1, 999999999989 - 2),
            (3, 6, 0, 3234846615), (6, 10, 15, 10 ** 11), (1, 1, 1, 1, 2 ** 36), shared_out(30030 * 2 ** 20, range(1, 6)),
        ]
        for row in rows:
            self.sums_up(row)

    def test_twelve_holders(self):
        row = shared_out(MOST, range(1, 12))
        sizes = [how_many_at(row, tuple(range(many))) for many in range(1, 13)]
        self.told(sum(math.comb(12, many) * sizes[many - 1] for many in range(1, 13)), how_many, row)
        for many in range(1, 13):
            self.told(sizes[many - 1], how_many_at, row, tuple(range(12 - many, 12)))
        counts = [how_many_so(row, tuple(range(12)), many_twos, many_odd)
                  for many_twos in range(13) for many_odd in range(1, 13)]
        self.assertEqual(sizes[11], sum(counts))

    def test_all_alike(self):
        # Of twelve who have 1 each all rows of the sum come in which somebody has nothing, and some are odd.
        row = (1,) * 12
        self.told(1, how_many_at, row, tuple(range(12)))
        self.told(11, how_many_at, row, tuple(range(11)))
        self.told(0, how_many_at, row, (0,))
        self.told(1, how_many_at, (1,) * 8, (0,))


class RefusedTest(Counts):
    def test_one_more_than_the_most(self):
        for row in ((1, 2, MOST - 2), (MOST, 1, 1), (0, 1, 2, MOST), (10 ** 29,) * 3, (MOST,) * 12):
            self.refused(TooGreat, row)

    def test_just_the_most_is_told(self):
        for row in ((1, 2, MOST - 3), (0, 1, MOST - 2, 1)):
            self.assertGreater(how_many(row), MOST)

    def test_too_few_whatever_the_sum(self):
        for row in ((1,), (5, 3), (0, 5, 3, 0), (0, 0, 7), (MOST,), (MOST, 1), (1, GREATEST - 1), (0, GREATEST)):
            self.refused(TooFew, row)

    def test_refused_whatever_else_is_asked(self):
        for function, asked in ((how_many_at, ((5, 0, 3), (1,))), (how_many_so, ((5, 0, 3), (1,), 0, 0))):
            with self.assertRaises(TooFew):
                function(*asked)
        for function, asked in ((how_many_at, ((MOST, 0, 1, 1), (1,))), (how_many_so, ((MOST, 0, 1, 1), (1,), 9, 9))):
            with self.assertRaises(TooGreat):
                function(*asked)


class HandedInTest(Counts):
    def test_by_names(self):
        self.assertEqual(how_many(row=(1, 1, 1)), 7)
        self.assertEqual(how_many_at(places=(1, 2), row=(1, 1, 1)), 2)
        self.assertEqual(how_many_so(many_odd=1, many_twos=0, places=(1, 2), row=(1, 1, 1)), 2)

    def test_asked_again_the_same_is_told(self):
        row, places = (3, 4, 5, 0), (0, 2)
        first = how_many(row), how_many_at(row, places), how_many_so(row, places, 0, 2)
        for _ in range(3):
            self.assertEqual((how_many(row), how_many_at(row, places), how_many_so(row, places, 0, 2)), first)
        self.assertEqual((row, places), ((3, 4, 5, 0), (0, 2)))


if __name__ == "__main__":
    unittest.main()
