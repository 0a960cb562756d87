"""Texts, of [2], [3] (h) and [18]."""

import itertools
import unittest

from kinds import strange_things
from matchgift.errors import GiftError, NoText
from matchgift.gathers import gather
from matchgift.roads import road
from matchgift.texts import read_plan, read_row, show_plan, show_row
from plain import mixed, rows_of

GREATEST = 10 ** 30 - 1
# Numbers that aren't written as told, and blanks and other signs for one.
NO_NUMBERS = (
    "00", "01", "007", "+1", "-1", "-0", "+0", "1.0", "1.", ".5", "1e3", "0x1", "0b1", "1_0", "_1", "1_", "a", "?", "-", "*",
    "\u0661", "\u00b2", "\u0967", "\uff11", "1\u0661", "\u2460", "\u00bd", "1,2", "1;2", "(1)", "1L", "\u22121", "",
)
BLANKS = ("  ", "\t", "\n", "\r", "\u00a0", "\u2003", "\u3000", "\x0b", "\x0c", " \n", "\x1c", "\u200b")


class Texts(unittest.TestCase):
    def shown_row(self, row, text):
        self.assertEqual(show_row(row), text)
        self.assertIs(type(show_row(row)), str)
        self.assertEqual(read_row(text), row)
        self.assertIs(type(read_row(text)), tuple)
        self.assertTrue(all(type(amount) is int for amount in read_row(text)))

    def shown_plan(self, plan, text):
        self.assertEqual(show_plan(plan), text)
        self.assertIs(type(show_plan(plan)), str)
        self.assertEqual(read_plan(text), plan)
        self.assertIs(type(read_plan(text)), tuple)
        for run in read_plan(text):
            self.assertIs(type(run), tuple)
            self.assertEqual([type(part) for part in run], [int] * 3)

    def refused(self, function, *things):
        for thing in things:
            with self.assertRaises(GiftError, msg=repr(thing)) as caught:
                function(thing)
            self.assertIs(type(caught.exception), NoText)


class RowTest(Texts):
    def test_ordinary_rows(self):
        self.shown_row((5, 3), "5 3")
        self.shown_row((7,), "7")
        self.shown_row((0, 10, 0, 205), "0 10 0 205")
        self.shown_row((1,) * 12, "1 1 1 1 1 1 1 1 1 1 1 1")
        self.shown_row((0,) * 11 + (1,), "0 " * 11 + "1")

    def test_thirty_figures(self):
        self.shown_row((GREATEST,), "9" * 30)
        self.shown_row((0, 10 ** 29, 10 ** 29), "0 1" + "0" * 29 + " 1" + "0" * 29)
        for seed in range(10):
            row = mixed(seed, 1 + seed, GREATEST)
            self.shown_row(row, " ".join(str(amount) for amount in row))

    def test_each_small_row(self):
        for row in rows_of(4, 11) + rows_of(2, 30) + rows_of(1, 12):
            self.shown_row(row, " ".join(map(str, row)))

    def test_numbers_not_so_written(self):
        for text in NO_NUMBERS:
            self.refused(read_row, text, "1 " + text, text + " 1", "1 " + text + " 1")

    def test_blanks(self):
        for blank in BLANKS:
            self.refused(read_row, "1" + blank + "2", "1 2" + blank + "3", blank + "1", "1" + blank, blank)
        self.refused(read_row, " ", " 1", "1 ", " 1 2", "1 2 ", "1  2", "", "  ")

    def test_noughts_alone(self):
        self.refused(read_row, *[" ".join(["0"] * many) for many in range(1, 14)])

    def test_thirteen_numbers(self):
        self.refused(read_row, " ".join(["1"] * 13), "0 " * 12 + "1", "1 " * 199 + "1")

    def test_more_than_thirty_figures(self):
        self.refused(read_row, "1" + "0" * 30, "9" * 31, "9" * 30 + " 1", "5" + "0" * 29 + " 5" + "0" * 29)
        self.refused(read_row, "9" * 5000, "1" * 150000, "0" * 31, "0" * 30 + "1")

    def test_things_that_are_no_texts(self):
        for thing in strange_things() + [0, 5, -1, GREATEST, (5, 3), [5, 3], b"5 3", ("5 3",), ["5", "3"], {"5 3": 1}]:
            # Two of the strange things are texts that are written as a row is.
            if isinstance(thing, str) and thing in ("1 2",):
                self.assertEqual(read_row(thing), (1, 2))
            else:
                self.refused(read_row, thing)


class PlanTest(Texts):
    def test_ordinary_plans(self):
        self.shown_plan((), "-")
        self.shown_plan(((0, 1, 3),), "0>1*3")
        self.shown_plan(((0, 1, 0), (11, 10, 12), (10, 0, 1)), "0>1*0 11>10*12 10>0*1")

    def test_all_places(self):
        for i, j in itertools.permutations(range(12), 2):
            self.shown_plan(((i, j, 5),), f"{i}>{j}*5")

    def test_thirty_figures(self):
        self.shown_plan(((3, 4, GREATEST),), "3>4*" + "9" * 30)
        self.refused(read_plan, "3>4*1" + "0" * 30, "3>4*" + "9" * 31, "3>4*" + "0" * 31, "3>4*" + "7" * 5000)

    def test_plans_that_are_told(self):
        for row in (tuple(range(1, 13)), (5, 4, 3), (10 ** 29, 3 ** 60, 7 ** 30), (4, 4)):
            plan = gather(row)
            self.assertEqual(read_plan(show_plan(plan)), plan)
        plan = road((1, 2, 10 ** 9 - 3), (10 ** 9 - 4, 2, 2))
        self.assertEqual(read_plan(show_plan(plan)), plan)
        self.assertEqual(read_plan(show_plan(plan + plan)), plan + plan)

    def test_many_runs(self):
        plan = ((0, 1, 1), (11, 3, 0)) * 15000
        self.assertEqual(read_plan(show_plan(plan)), plan)
        self.refused(read_plan, show_plan(plan) + " ", show_plan(plan) + " -")

    def test_places_beyond(self):
        for place in ("12", "13", "99", "100", "9" * 30, "9" * 31):
            self.refused(read_plan, f"{place}>1*1", f"1>{place}*1", f"0>1*1 {place}>1*1")
        self.shown_plan(((11, 0, 12),), "11>0*12")

    def test_the_same_place_twice(self):
        for place in range(12):
            self.refused(read_plan, f"{place}>{place}*1", f"{place}>{place}*0", f"0>1*1 {place}>{place}*1")

    def test_numbers_not_so_written(self):
        for text in NO_NUMBERS:
            self.refused(read_plan, f"{text}>1*1", f"2>{text}*1", f"2>1*{text}", f"0>1*1 2>1*{text}")

    def test_blanks(self):
        for blank in BLANKS + (" ",):
            for text in ("0>1*1", "-"):
                self.refused(read_plan, blank + text, text + blank)
            self.refused(read_plan, blank, f"0{blank}>1*1", f"0>{blank}1*1", f"0>1{blank}*1", f"0>1*{blank}1")
        for blank in BLANKS:
            self.refused(read_plan, f"0>1*1{blank}0>1*1")
        self.assertEqual(read_plan("0>1*1 0>1*1"), ((0, 1, 1), (0, 1, 1)))

    def test_the_dash_beside_runs(self):
        self.refused(read_plan, "- -", "--", "0>1*1 -", "- 0>1*1", "-0>1*1", "0>1*1-", "\u2013", "\u2212")

    def test_other_signs(self):
        self.refused(
            read_plan, "", "0", "0>1", "0*1", "0>1*", ">1*1", "0>*1", "*", ">", ">*", "0>1*1*1", "0>1>2*1", "0*1>1", "0<1*1",
            "0>1x1", "0 > 1 * 1", "(0, 1, 1)", "0>1*1,0>1*1", "0>1*1;", "0>>1*1", "0>1**1", "none", "1 2 3", "0>1*1 0", "0\u203a1*1",
        )

    def test_things_that_are_no_texts(self):
        for thing in strange_things() + [0, (), ((0, 1, 1),), [(0, 1, 1)], b"-", b"0>1*1", ("-",), ["0>1*1"], {"-": 1}]:
            self.refused(read_plan, thing)


class HandedInTest(Texts):
    def test_by_names(self):
        self.assertEqual(show_row(row=(5, 3)), "5 3")
        self.assertEqual(show_plan(plan=((0, 1, 3),)), "0>1*3")
        self.assertEqual(read_row(text="5 3"), (5, 3))
        self.assertEqual(read_plan(text="0>1*3"), ((0, 1, 3),))

    def test_what_was_handed_in_stays_as_it_was(self):
        things = [["5 3"], {"5 3": ["-"]}]
        for thing in things:
            self.refused(read_row, thing)
            self.refused(read_plan, thing)
        self.assertEqual(things, [["5 3"], {"5 3": ["-"]}])


if __name__ == "__main__":
    unittest.main()
