"""The desk, of [2], [3] (h) and [19]."""

import itertools
import unittest

from kinds import strange_things
from matchgift.clauses import broken
from matchgift.counts import how_many
from matchgift.desk import Desk
from matchgift.errors import GiftError, NoDeed, NoLine, NoName, NoRow, TooFew, TooGreat
from matchgift.gathers import gather
from matchgift.measures import measure, odd_ones, twos
from matchgift.meets import meeting
from matchgift.plans import after
from matchgift.rings import ring
from matchgift.roads import road
from matchgift.texts import show_plan, show_row
from matchgift.wishes import wished
from plain import done, rows_of

GREATEST = 10 ** 30 - 1
THIRTY = "9" * 30
THIRTY_ONE = "1" + "0" * 30
ONE_NAME = ("show", "drop", "stays", "gather", "many")
TWO_NAMES = ("comes", "road", "meet")
NO_NAMES = ("", "A", "aB", "abcdefghi", "a1", "1", "\u00e4", "a_b", "?", "-", "a\n", "a\t")


class Desks(unittest.TestCase):
    def desk(self, **rows):
        """A desk with rows kept by names."""
        desk = Desk()
        for name, row in rows.items():
            self.told(desk, f"keep {name} {show_row(row)}", "done")
        return desk

    def told(self, desk, line, text):
        told = desk.say(line)
        self.assertEqual(told, text, line)
        self.assertIs(type(told), str)

    def refused(self, refusal, desk, *lines):
        before = dict(desk.kept)
        for line in lines:
            with self.assertRaises(GiftError, msg=repr(line)) as caught:
                desk.say(line)
            self.assertIs(type(caught.exception), refusal, line)
        self.assertEqual(desk.kept, before)


class AnswersTest(Desks):
    def test_keep_show_and_drop(self):
        desk = self.desk(a=(5, 3), abcdefgh=(0, 7, 0), z=(GREATEST,))
        self.told(desk, "show a", "5 3")
        self.told(desk, "show abcdefgh", "0 7 0")
        self.told(desk, "show z", THIRTY)
        self.told(desk, "keep a 1 2 3", "done")
        self.told(desk, "show a", "1 2 3")
        self.told(desk, "drop a", "done")
        self.refused(NoName, desk, "show a", "drop a")
        self.told(desk, "show z", THIRTY)
        self.told(desk, "keep a 4", "done")
        self.told(desk, "show a", "4")

    def test_stays(self):
        desk = self.desk(a=(12, 36, 24), b=(7,), c=(10 ** 29, 0, 10 ** 29))
        self.told(desk, "stays a", "72 3 2 2")
        self.told(desk, "stays b", "7 7 0 1")
        self.told(desk, "stays c", f"{2 * 10 ** 29} {5 ** 29} 29 2")

    def test_comes(self):
        desk = self.desk(a=(1, 3, 5), b=(2, 2, 5), c=(1, 1, 7), d=(3, 6, 0, 0), e=(1, 1, 1, 1), f=(1, 6), g=(3, 4))
        self.told(desk, "comes a b", "yes")
        self.told(desk, "comes a a", "yes")
        self.told(desk, "comes a c", "doubled")
        self.told(desk, "comes a d", "places")
        self.told(desk, "comes d e", "sum; nothing; measure; odd ones; doubled")
        self.told(desk, "comes f g", "pair")

    def test_road_try_and_do(self):
        desk = self.desk(a=(1, 3, 5), b=(2, 2, 5), c=(1, 1, 7))
        plan = desk.say("road a b")
        self.told(desk, f"try a {plan}", "2 2 5")
        self.told(desk, "show a", "1 3 5")
        self.told(desk, f"do a {plan}", "2 2 5")
        self.told(desk, "show a", "2 2 5")
        self.told(desk, "road a b", "-")
        self.told(desk, "road b c", "none")
        self.told(desk, "try a -", "2 2 5")
        self.told(desk, "do a -", "2 2 5")
        self.told(desk, "do b 2>0*1", "4 2 3")
        self.told(desk, "do b 2>1*1 0>1*0", "4 4 1")
        self.told(desk, "show b", "4 4 1")
        self.told(desk, f"try b 0>2*{THIRTY}", show_row(after((4, 4, 1), ((0, 2, GREATEST),))))

    def test_gather_and_many(self):
        desk = self.desk(a=(5, 4, 3), b=(1, 1, 1), c=(7,))
        self.told(desk, f"try a {desk.say('gather a')}", show_row(done((5, 4, 3), gather((5, 4, 3)))))
        self.told(desk, "gather c", "-")
        self.told(desk, "many b", "7")

    def test_ring(self):
        desk = self.desk(a=(1, 4, 0, 3))
        self.told(desk, "ring a 0 1", "4")
        self.told(desk, "ring a 1 0", "4")
        self.told(desk, "ring a 0 3", "never")
        self.told(desk, "ring a 3 1", "3")

    def test_wish_and_meet(self):
        desk = self.desk(a=(1, 2, 5), b=(2, 2, 4), c=(1, 2, 6), d=(0, 1, 2, 5))
        self.told(desk, "wish a 0 0 ?", "0 0 8")
        self.told(desk, "wish c 0 0 ?", "none")
        self.told(desk, "wish a 1 2 5", "1 2 5")
        self.told(desk, f"wish a {THIRTY} ? ?", "none")
        self.told(desk, "wish a ? ? ?", show_row(wished((1, 2, 5), (None, None, None))))
        self.told(desk, "meet a b", show_row(meeting(((1, 2, 5), (2, 2, 4)))))
        self.told(desk, "meet a a", show_row(meeting(((1, 2, 5), (1, 2, 5)))))
        self.told(desk, "meet a c", "none")
        self.told(desk, "meet a d", "none")

    def test_as_the_functions_tell(self):
        rows = rows_of(3, 6) + [(5, 3), (4,), (2, 2, 2, 2), (1, 3, 5, 7)]
        for row in rows:
            desk = self.desk(n=row)
            self.told(desk, "show n", show_row(row))
            self.told(desk, "stays n", f"{sum(row)} {measure(row)} {twos(row)} {odd_ones(row)}")
            self.told(desk, "gather n", show_plan(gather(row)))
            have = [place for place, amount in enumerate(row) if amount]
            for i, j in itertools.permutations(have, 2):
                many = ring(row, i, j)
                self.told(desk, f"ring n {i} {j}", "never" if many is None else str(many))
            if len(have) > 2:
                self.told(desk, "many n", str(how_many(row)))
                told = wished(row, (2,) + (None,) * (len(row) - 1))
                self.told(desk, "wish n 2" + " ?" * (len(row) - 1), "none" if told is None else show_row(told))

    def test_two_rows_as_the_functions_tell(self):
        rows = rows_of(3, 5)[::2] + [(5, 3), (1, 3, 5), (2, 2, 5)]
        for row, other in itertools.product(rows, repeat=2):
            desk = self.desk(n=row, m=other)
            self.told(desk, "comes n m", "; ".join(broken(row, other)) or "yes")
            plan = road(row, other)
            self.told(desk, "road n m", "none" if plan is None else show_plan(plan))
            if sum(amount > 0 for amount in row) > 2 and sum(amount > 0 for amount in other) > 2:
                told = meeting((row, other))
                self.told(desk, "meet n m", "none" if told is None else show_row(told))


class NoLineTest(Desks):
    def test_first_words(self):
        desk = self.desk(a=(5, 3))
        self.refused(NoLine, desk, "", " ", "a", "shows a", "Show a", "SHOW a", "kee a 1", "undo a", "help", "- a", "tell a")
        self.refused(NoLine, desk, "show\ta", "show\na", "show a\n", "\nshow a", "show\u00a0a", "show a\r")

    def test_how_many_words(self):
        desk = self.desk(a=(5, 3, 4), b=(2, 6, 4))
        for word in ONE_NAME:
            self.refused(NoLine, desk, word, f"{word} a b", f"{word} a 1", f"{word} a b c")
        for word in TWO_NAMES:
            self.refused(NoLine, desk, word, f"{word} a", f"{word} a b a", f"{word} a b 1")
        self.refused(NoLine, desk, "keep", "keep a", "try", "try a", "do", "do a", "ring", "ring a", "ring a 0")
        self.refused(NoLine, desk, "ring a 0 1 2", "ring a 0 1 1 1", "ring 0 1", "wish", "wish a", "keep 1 2", "try -", "do -")

    def test_blanks(self):
        desk = self.desk(a=(5, 3, 4), b=(2, 6, 4))
        lines = (
            "keep c 1 2", "show a", "drop a", "stays a", "comes a b", "road a b", "try a 0>1*1", "do a 0>1*1 0>1*0", "gather a",
            "many a", "ring a 0 1", "wish a ? ? 4", "meet a b", "try a -",
        )
        for line in lines:
            self.refused(NoLine, desk, " " + line, line + " ", line.replace(" ", "  "), line.replace(" ", "\t"))
            self.refused(NoLine, desk, line + "\n", line.replace(" ", "\u00a0"), line.upper(), line.replace(" ", ""))
            words = line.split(" ")
            for at in range(1, len(words)):
                self.refused(NoLine, desk, " ".join(words[:at]) + "  " + " ".join(words[at:]))

    def test_names(self):
        desk = self.desk(a=(5, 3, 4))
        for name in NO_NAMES:
            for word in ONE_NAME:
                self.refused(NoLine, desk, f"{word} {name}")
            for word in TWO_NAMES:
                self.refused(NoLine, desk, f"{word} a {name}", f"{word} {name} a", f"{word} {name} {name}")
            self.refused(NoLine, desk, f"keep {name} 1 2", f"try {name} -", f"do {name} 0>1*1", f"ring {name} 0 1")
            self.refused(NoLine, desk, f"wish {name} ? ? ?")

    def test_rows_plans_wishes_and_numbers(self):
        desk = self.desk(a=(5, 3, 4))
        for row in ("0", "0 0", "01", "-1 2", "+1", "1 a", "1,2", "?", "-", " ".join(["1"] * 13), THIRTY_ONE, THIRTY + " 1"):
            self.refused(NoLine, desk, f"keep a {row}", f"keep b {row}")
        for plan in ("", "0", "0>1", "0>0*1", "0>12*1", "0>1*-1", "0>1*01", "- -", "0>1*1 -", f"0>1*{THIRTY_ONE}", "none", "0>1*1,"):
            self.refused(NoLine, desk, f"try a {plan}", f"do a {plan}")
        for number in ("a", "?", "-1", "+1", "01", "00", "\u0661", "1.0", "1_0", THIRTY_ONE, "0" * 31, "9" * 5000):
            self.refused(NoLine, desk, f"ring a {number} 1", f"ring a 0 {number}", f"ring a {number} {number}")
        for wish in ("a", "??", "-1", "+1", "01", "00", "none", "None", "\u0661", "1_0", THIRTY_ONE, "9" * 5000, "-", "*"):
            self.refused(NoLine, desk, f"wish a {wish} ? ?", f"wish a ? ? {wish}", f"wish a {wish}")

    def test_things_that_are_no_texts(self):
        desk = self.desk(a=(5, 3))
        self.refused(NoLine, desk, *strange_things())
        self.refused(NoLine, desk, 0, 1, b"show a", ("show a",), ["show", "a"], ("show", "a"), {"show a": 1}, ["show a"])


class OrderTest(Desks):
    """With two and three faults at once the one named first is told."""

    def test_no_line_ahead_of_no_name(self):
        desk = self.desk(a=(5, 3))
        self.refused(NoLine, desk, "show b 1", "ring b 0 x", "ring b 0", "wish b", "wish b x", "try b 0>0*1", "do b x")
        self.refused(NoLine, desk, "comes b A", "comes A b", "road b", "meet b c d", "ring b 01 7", f"wish b {THIRTY_ONE}")

    def test_no_name(self):
        desk = self.desk(a=(5, 3, 4))
        for word in ONE_NAME:
            self.refused(NoName, desk, f"{word} b", f"{word} abcdefgh")
        for word in TWO_NAMES:
            self.refused(NoName, desk, f"{word} a b", f"{word} b a", f"{word} b c", f"{word} b b")
        self.refused(NoName, desk, "try b -", "do b 0>1*1", "ring b 0 1", "wish b ? ? ?")

    def test_the_name_of_keep_is_not_asked(self):
        desk = Desk()
        self.refused(NoName, desk, "show a")
        self.told(desk, "keep a 5 3", "done")

    def test_no_name_ahead_of_no_deed_and_no_row(self):
        desk = self.desk(a=(5, 3))
        self.refused(NoName, desk, "ring b 0 0", "ring b 7 9", f"ring b {THIRTY} 1", "wish b ?", "wish b 1 2 3 4 5")
        self.refused(NoName, desk, "wish b" + " ?" * 13, "try b 0>1*99", "do b 11>10*1")

    def test_no_deed_of_ring(self):
        desk = self.desk(a=(5, 0, 3), b=(10 ** 9, 0, 1), c=(7,))
        self.refused(NoDeed, desk, "ring a 0 0", "ring a 0 1", "ring a 1 0", "ring a 0 3", "ring a 3 0", "ring a 12 13")
        self.refused(NoDeed, desk, f"ring a {THIRTY} 0", f"ring a 0 {THIRTY}", "ring c 0 0", "ring c 0 1")
        # Ahead of TooGreat.
        self.refused(NoDeed, desk, "ring b 0 1", "ring b 0 0", "ring b 2 2")
        self.refused(TooGreat, desk, "ring b 0 2", "ring b 2 0")

    def test_no_row_of_wish(self):
        desk = self.desk(a=(5, 1, 3), b=(5, 0, 3), c=(1,) * 12)
        self.refused(NoRow, desk, "wish a ?", "wish a ? ?", "wish a ? ? ? ?", "wish a 1 2 3 4 5 6 7 8 9 10 11 12 13")
        self.refused(NoRow, desk, "wish c" + " ?" * 13, "wish c" + " ?" * 500, "wish c ?", f"wish a {THIRTY}")
        # Ahead of TooFew.
        self.refused(NoRow, desk, "wish b ?", "wish b ? ? ? ?")
        self.refused(TooFew, desk, "wish b ? ? ?", "wish b 5 0 3", f"wish b {THIRTY} ? ?")

    def test_as_the_functions_are(self):
        desk = self.desk(a=(5, 0, 3), b=(1, 100000), c=(2, 99999), d=(1, 2, 10 ** 9), e=(1, 2, 10 ** 12), f=(10 ** 12, 1))
        self.refused(NoDeed, desk, "try a 0>1*1", "do a 0>1*1", "try a 0>2*4", "do a 0>2*3 0>2*1", "do a 0>2*1 0>3*0", "try a 3>0*1")
        self.told(desk, "show a", "5 0 3")
        self.refused(TooGreat, desk, "comes b c", "road b c", "road d d", "road d a", "road e b", "many e")
        self.refused(TooFew, desk, "many a", "many f", "meet a a", "meet a d", "meet d a", "meet b d")
        self.told(desk, "meet d e", "none")
        self.told(desk, "comes b b", "yes")

    def test_nothing_is_changed_by_a_plan_that_may_not_be_done(self):
        desk = self.desk(a=(5, 3))
        self.refused(NoDeed, desk, "do a 0>1*1 0>1*3", "do a 0>1*4", "do a 0>1*3 0>1*0")
        self.told(desk, "show a", "5 3")


class HandedInTest(Desks):
    def test_two_desks_do_not_touch_each_other(self):
        one, other = Desk(), Desk()
        one.say("keep a 5 3")
        self.refused(NoName, other, "show a")
        other.say("keep a 1 2")
        other.say("do a 1>0*1")
        one.say("keep b 4 4")
        self.told(one, "show a", "5 3")
        self.told(other, "show a", "2 1")
        self.refused(NoName, other, "show b")
        other.say("drop a")
        self.told(one, "show a", "5 3")

    def test_by_name(self):
        desk = Desk()
        self.assertEqual(desk.say(line="keep a 5 3"), "done")
        self.assertEqual(desk.say(line="show a"), "5 3")

    def test_asked_again_the_same_is_told(self):
        desk = self.desk(a=(9, 4, 3), b=(12, 2, 2))
        for line in ("show a", "stays a", "comes a b", "road a b", "try a 0>1*1", "gather a", "many a", "ring a 0 1", "meet a b"):
            told = desk.say(line)
            for _ in range(3):
                self.told(desk, line, told)

    def test_things_stay_as_they_were(self):
        desk, thing = Desk(), [["show a"], {"a": []}]
        self.refused(NoLine, desk, thing, thing[0], thing[1], (thing,))
        self.assertEqual(thing, [["show a"], {"a": []}])

    def test_the_method_stands_in_the_class_itself(self):
        self.assertIn("say", vars(Desk))
        self.assertIn("__init__", vars(Desk))


if __name__ == "__main__":
    unittest.main()
