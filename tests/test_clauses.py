"""What stands in the way, of [2], [3] (a) and [7]."""

import unittest

from matchgift.clauses import broken, comes
from matchgift.errors import GiftError, TooGreat
from plain import all_that_come, behind_deeds, rows_of
from worded import told_broken

GREATEST = 10 ** 30 - 1
MOST_OF_PAIR = 100000
# Places, and the greatest sum for which all rows are held against plain going on.
SMALL = ((1, 12), (2, 40), (3, 18), (4, 10), (5, 7))


class Asked(unittest.TestCase):
    def told(self, row, other, *clauses):
        told = broken(row, other)
        self.assertEqual(told, clauses, (row, other))
        self.assertIs(type(told), tuple)
        self.assertTrue(all(type(clause) is str for clause in told))
        self.assertIs(comes(row, other), clauses == (), (row, other))

    def refused(self, row, other):
        for function in (broken, comes):
            with self.assertRaises(GiftError) as caught:
                function(row, other)
            self.assertIs(type(caught.exception), TooGreat)


class EachClauseTest(Asked):
    def test_none(self):
        self.told((1, 2, 4), (2, 1, 4))
        self.told((1, 3, 5), (2, 2, 5))
        self.told((3, 3, 3), (6, 0, 3))
        self.told((1, 1, 2), (0, 4, 0))
        self.told((1, 1, 1, 1, 1), (0, 0, 4, 1, 0))

    def test_places(self):
        self.told((1, 2), (1, 2, 0), "places")
        self.told((1, 2, 0), (1, 2), "places")
        self.told((3,), (1, 2), "places")

    def test_places_alone_is_asked_then(self):
        self.told((6, 6, 12), (1,), "places")
        self.told((4, 4, 0), (1, 1, 1, 1), "places")
        self.told((3, 6), (5,) * 12, "places")
        self.told((GREATEST - 1, 1), (GREATEST,), "places")

    def test_sum(self):
        self.told((3, 5, 2), (3, 5, 4), "sum")
        self.told((3, 5, 4), (3, 5, 2), "sum")
        self.told((7, 0), (1, 0), "sum", "measure", "doubled")
        self.told((1, 2), (1, 4), "sum")
        self.told((GREATEST - 1, 1), (1, 2), "sum")

    def test_nothing(self):
        self.told((1, 2, 3, 0), (1, 2, 2, 1), "nothing")
        self.told((0, 8, 0), (8, 0, 0), "nothing", "doubled")
        self.told((0, 1, 2), (1, 2, 0), "nothing")
        self.told((1, 0, 2), (1, 2, 0), "nothing")
        self.told((1, 2, 5, 0), (0, 6, 2, 0))

    def test_measure(self):
        self.told((3, 6, 6), (1, 2, 12), "measure")
        self.told((1, 2, 12), (3, 6, 6), "measure")
        self.told((5, 10, 30), (15, 30, 0), "measure")
        # The measure is without twos.
        self.told((1, 2, 5), (4, 0, 4))

    def test_twos(self):
        self.told((4, 2, 2), (1, 1, 6), "twos")
        self.told((4, 4, 8), (2, 2, 12), "twos")
        # Neither odd ones nor doubled is asked where the twos are unlike.
        self.told((2, 2, 2, 2), (1, 1, 3, 3), "twos")
        self.told((2, 4, 4, 4), (1, 1, 3, 9), "twos")

    def test_odd_ones(self):
        self.told((1, 2, 2, 2), (1, 1, 3, 2), "odd ones")
        self.told((1, 1, 2, 2, 2), (1, 1, 1, 1, 4), "odd ones")
        self.told((2, 4, 4, 4), (2, 2, 6, 4), "odd ones")
        # Behind more twos there may be more of them.
        self.told((1, 3, 4, 4), (2, 2, 4, 4))
        self.told((1, 1, 2, 8), (2, 2, 6, 2))

    def test_doubled(self):
        self.told((1, 3, 5), (1, 1, 7), "doubled")
        self.told((3, 3, 2), (3, 5, 0), "doubled")
        self.told((2, 6, 10), (2, 2, 14), "doubled")
        self.told((1, 3), (3, 1), "doubled")
        # Behind more twos all may be odd ones: somebody was doubled.
        self.told((1, 3, 4), (2, 6, 0))
        self.told((1, 2, 5), (8, 0, 0))

    def test_pair(self):
        self.told((1, 6), (3, 4), "pair")
        self.told((1, 6), (6, 1), "pair")
        self.told((1, 6), (4, 3))
        self.told((0, 1, 0, 6), (0, 3, 0, 4), "pair")
        self.told((5, 3), (6, 2), "pair")
        self.told((5, 3), (2, 6))
        self.told((1, 9), (6, 4))
        self.told((1, 20), (6, 15), "measure")
        self.told((1, 20), (5, 16), "pair")

    def test_pair_where_both_have_the_same(self):
        for amount in (1, 2, 3, 20, 50000):
            self.told((amount, amount), (0, 2 * amount))
            self.told((amount, amount), (2 * amount, 0))
            self.told((amount, 0, amount), (2 * amount, 0, 0))
        for last in ((8, 0), (0, 8), (4, 4), (2, 6)):
            self.told((5, 3), last)
            self.told((0, 5, 3), (0,) + last)

    def test_pair_is_not_asked_of_three(self):
        # Of the first two alone it would not come.
        self.told((1, 6, 2), (3, 4, 2))
        self.told((5, 3, 8), (6, 2, 8))

    def test_one_holder(self):
        self.told((7,), (7,))
        self.told((7,), (5,), "sum", "measure", "doubled")
        self.told((8,), (4,), "sum", "twos")
        self.told((4,), (8,), "sum")
        self.told((0, 7), (7, 0), "nothing", "doubled")
        self.told((0, 7), (1, 6), "nothing", "measure")
        self.told((0, 6), (0, 3), "sum", "twos")
        self.told((0, 3), (0, 6), "sum")

    def test_several_in_their_order(self):
        self.told((6, 6, 12, 0), (1, 2, 2, 2), "sum", "nothing", "measure", "twos")
        self.told((3, 6, 0, 0), (1, 1, 1, 1), "sum", "nothing", "measure", "odd ones", "doubled")
        self.told((3, 6, 6, 0), (1, 1, 1, 12), "nothing", "measure", "odd ones")
        self.told((1, 2, 4), (1, 1, 5), "odd ones", "doubled")
        self.told((3, 6, 0), (5, 0, 5), "sum", "nothing", "measure", "odd ones", "doubled")
        self.told((1, 3, 5), (9, 0, 0), "measure", "doubled")

    def test_of_the_same_row_none_is_asked(self):
        for row in ((5,), (1, 1), (1, 3, 5), (0, 3, 0), (2, 2, 2), (7,) * 12, (GREATEST,), (1, GREATEST - 1)):
            self.told(row, row)
            self.told(row, tuple(list(row)))


class TooGreatTest(Asked):
    def test_just_the_most(self):
        self.told((1, 99999), (2, 99998))
        self.told((1, 99999), (65536, 34464))
        self.told((1, 99999), (6, 99994), "pair")
        self.told((1, 99999), (99998, 2), "pair")
        self.told((0, 50000, 50000), (0, MOST_OF_PAIR, 0))
        self.told((50000, 0, 50000), (0, 0, MOST_OF_PAIR))

    def test_one_more(self):
        self.refused((1, 100000), (2, 99999))
        self.refused((1, 100000), (4, 99997))
        self.refused((1, 100000), (100000, 1))
        self.refused((0, 50000, 0, 50001), (0, 99999, 0, 2))
        self.refused((50001, 50001), (0, 100002))
        self.refused((10 ** 29, 10 ** 29), (0, 2 * 10 ** 29))
        self.refused((1, GREATEST - 1), (2, GREATEST - 2))

    def test_no_refusal_of_the_same_row(self):
        for row in ((1, 100000), (50001, 50001), (0, 3, 10 ** 29), (100001,)):
            self.told(row, row)

    def test_no_refusal_where_another_clause_is_broken(self):
        self.told((1, 100000), (1, 100000, 0), "places")
        self.told((1, 100000), (1, 100002), "sum")
        self.told((2, 100000), (2, 99998), "sum", "odd ones", "doubled")
        self.told((1, 100000, 0), (1, 99998, 2), "nothing")
        self.told((1, 100000), (11, 99990), "measure")
        self.told((2, 100002), (5, 99999), "twos")
        self.told((1, 100001), (5, 99997), "doubled")
        self.told((100001, 0), (100000, 1), "nothing", "measure")
        self.told((0, GREATEST), (GREATEST, 0), "nothing", "doubled")

    def test_it_is_the_sum_of_the_row_that_counts(self):
        # The other one's sum is above the most, but pair is not asked then.
        self.told((1, 4), (2, 100001), "sum")

    def test_no_refusal_of_three(self):
        self.told((1, 100000, 2), (2, 99999, 2))
        self.told((1, 100000, 2), (100002, 1, 0))
        self.told((1, 2, GREATEST - 3), (2, GREATEST - 3, 1))
        self.told((1, 2, GREATEST - 3), (3, 6, GREATEST - 9), "measure")


class PlainGoingOnTest(Asked):
    def test_all_small_rows(self):
        for places, most in SMALL:
            for total in range(1, most + 1):
                rows = rows_of(places, total)
                nexts = {}
                for row in rows:
                    # Of more than two holders the order of the places says nothing new.
                    if places > 2 and row != tuple(sorted(row)):
                        continue
                    that_come = all_that_come(row, nexts)
                    for other in rows:
                        self.assertIs(comes(row, other), other in that_come, (row, other))

    def test_clauses_of_all_small_rows(self):
        rows = [row for places in (1, 2, 3, 4) for total in range(1, 8 - places) for row in rows_of(places, total)]
        rows += [(6, 6), (12, 0), (2, 6), (3, 9), (6, 6, 12), (0, 4, 8), (4, 4, 8), (10, 5, 0), (9, 3, 3), (8, 8, 8)]
        for row in rows:
            that_come = all_that_come(row)
            for other in rows:
                self.assertEqual(broken(row, other), told_broken(row, other, that_come), (row, other))

    def test_what_deeds_make_comes(self):
        for row in ((10 ** 29, 3, 5 ** 40), (7 ** 35, 2 ** 96, 1, 0, 6), tuple(range(1, 13)), (3 * 2 ** 90,) * 12):
            behind = row
            for step in range(60):
                choices = behind_deeds(behind)
                behind = choices[step * step % len(choices)]
                self.assertEqual(broken(row, behind), ())
                self.assertIs(comes(row, behind), True)


class HandedInTest(Asked):
    def test_by_names(self):
        self.assertEqual(broken(other=(3, 4), row=(1, 6)), ("pair",))
        self.assertIs(comes(other=(3, 4), row=(1, 6)), False)
        self.assertIs(comes(other=(2, 5), row=(1, 6)), True)

    def test_asked_again_the_same_is_told(self):
        row, other = (1, 6, 0), (3, 4, 0)
        for _ in range(3):
            self.told(row, other, "pair")
            self.told(other, row, "pair")
        self.assertEqual((row, other), ((1, 6, 0), (3, 4, 0)))


if __name__ == "__main__":
    unittest.main()
