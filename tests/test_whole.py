"""The whole program, of [2], [3] and the interface: what all modules tell beside one another."""

import importlib
import inspect
import itertools
import unittest

from matchgift.clauses import broken, comes
from matchgift.counts import how_many, how_many_at, how_many_so
from matchgift.desk import Desk
from matchgift.gathers import fewest, gather
from matchgift.measures import measure, odd_ones, twos
from matchgift.meets import goes_round, meeting
from matchgift.plans import after, deeds_in, shows_plan
from matchgift.roads import road
from matchgift.rows import after_deed, deeds, holders
from matchgift.small import deeds_to, first_way
from matchgift.stores import Store
from matchgift.texts import read_plan, read_row, show_plan, show_row
from matchgift.wishes import can_be, wished
from plain import all_that_come, behind_deeds, how_many_have, rows_of

# The interface: module by module, the names with their arguments.
INTERFACE = {
    "rows": "is_row(thing) holders(row) may_give(row,i,j) after_deed(row,i,j) deeds(row)",
    "measures": "twos_in(n) odd_part(n) measure(row) twos(row) odd_ones(row) unit(row)",
    "runs": "may_run(row,run) ran(row,run) ended_by(row,i,j)",
    "rings": "ring(row,i,j) back_run(row,i,j) deeds_until(row,i,j,amount)",
    "clauses": "broken(row,other) comes(row,other)",
    "gathers": "fewest(row) gather(row)",
    "plans": "after(row,plan) shows_plan(row,other,thing) deeds_in(plan)",
    "roads": "road(row,other)",
    "counts": "how_many(row) how_many_at(row,places) how_many_so(row,places,many_twos,many_odd)",
    "wishes": "can_be(row,wishes) wished(row,wishes)",
    "meets": "meeting(rows) goes_round(row)",
    "small": "deeds_to(row,other) first_way(row,other)",
    "texts": "show_row(row) show_plan(plan) read_row(text) read_plan(text)",
}
STORE = "row() give(i,j) run(i,j,k) back() calls() deeds() aim(name,other) state(name) goals() lost_by(i,j)"


def parts_of(words):
    """Pairs of a name and its arguments."""
    for word in words.split():
        name, _, rest = word.partition("(")
        yield name, [argument for argument in rest[:-1].split(",") if argument]


class InterfaceTest(unittest.TestCase):
    def test_functions(self):
        for module, words in INTERFACE.items():
            defined = importlib.import_module("matchgift." + module)
            for name, arguments in parts_of(words):
                function = getattr(defined, name)
                self.assertEqual(list(inspect.signature(function).parameters), arguments, name)
                self.assertEqual(function.__module__, "matchgift." + module)

    def test_classes(self):
        for name, arguments in parts_of(STORE):
            self.assertEqual(list(inspect.signature(vars(Store)[name]).parameters), ["self"] + arguments, name)
        self.assertEqual(list(inspect.signature(Store).parameters), ["row"])
        self.assertEqual(list(inspect.signature(Desk).parameters), [])
        self.assertEqual(list(inspect.signature(vars(Desk)["say"]).parameters), ["self", "line"])


class OneRowTest(unittest.TestCase):
    """All functions asked of one small row tell what plain going on has."""

    ROWS = ((1, 2, 3), (1, 3, 5), (2, 2, 4), (3, 3, 3), (1, 1, 1, 1), (2, 3, 0, 1), (4, 1, 1, 2), (1, 1, 6, 0))

    def test_what_comes(self):
        for row in self.ROWS:
            that_come = all_that_come(row)
            for other in rows_of(len(row), sum(row)):
                has_come = other in that_come
                self.assertIs(comes(row, other), has_come)
                self.assertIs(broken(row, other) == (), has_come)
                self.assertIs(can_be(row, other), has_come)
                self.assertEqual(wished(row, other), other if has_come else None)
                plan, way = road(row, other), first_way(row, other)
                self.assertIs(plan is not None, has_come)
                self.assertIs(way is not None, has_come)
                if has_come:
                    self.assertEqual(after(row, plan), other)
                    self.assertLessEqual(deeds_to(row, other), deeds_in(plan))
                    self.assertIs(shows_plan(row, other, tuple((i, j, 1) for i, j in way)), True)

    def test_counts_and_fewest(self):
        for row in self.ROWS:
            that_come = all_that_come(row)
            self.assertEqual(how_many(row), len(that_come))
            self.assertEqual(fewest(row), min(how_many_have(other) for other in that_come))
            self.assertIn(after(row, gather(row)), that_come)
            for other in that_come:
                places = holders(other)
                alike = [one for one in that_come if holders(one) == places]
                self.assertEqual(how_many_at(row, places), len(alike))
                so = [one for one in alike if (twos(one), odd_ones(one)) == (twos(other), odd_ones(other))]
                self.assertEqual(how_many_so(row, places, twos(other), odd_ones(other)), len(so))

    def test_meeting_and_going_round(self):
        for row in self.ROWS:
            that_come = all_that_come(row)
            again = [behind for behind in behind_deeds(row) if row in all_that_come(behind)]
            self.assertIs(goes_round(row), bool(again))
            for other in that_come:
                if how_many_have(other) > 2:
                    self.assertIn(meeting((row, other)), that_come & all_that_come(other))

    def test_what_stays(self):
        for row in self.ROWS:
            for deed in deeds(row):
                behind = after_deed(row, *deed)
                self.assertEqual((sum(behind), measure(behind)), (sum(row), measure(row)))
                self.assertGreaterEqual(twos(behind), twos(row))
                if twos(behind) == twos(row):
                    self.assertLessEqual(odd_ones(behind), odd_ones(row))

    def test_store_and_desk(self):
        for row in self.ROWS:
            store, desk = Store(row), Desk()
            desk.say(f"keep n {show_row(row)}")
            that_come = all_that_come(row)
            for other in rows_of(len(row), sum(row))[::3]:
                store.aim("goal", other)
                has_come = other in that_come
                self.assertEqual(store.state("goal"), "met" if other == row else "open" if has_come else "lost")
                desk.say(f"keep m {show_row(other)}")
                self.assertEqual(desk.say("comes n m") == "yes", has_come)
                self.assertEqual(desk.say("road n m") == "none", not has_come)
            self.assertEqual(desk.say("many n"), str(len(that_come)))


class HistoryTest(unittest.TestCase):
    def test_a_history_as_a_plan(self):
        store, plan = Store((9, 4, 3, 8)), ()
        for i, j, k in ((0, 1, 1), (3, 2, 4), (1, 2, 0), (1, 3, 10 ** 20), (0, 2, 7)):
            if k == 1:
                store.give(i, j)
            else:
                store.run(i, j, k)
            plan += ((i, j, k),)
            self.assertEqual(read_plan(show_plan(plan)), plan)
            self.assertEqual(after((9, 4, 3, 8), plan), store.row())
            self.assertEqual(deeds_in(plan), store.deeds())
            self.assertEqual(read_row(show_row(store.row())), store.row())
        desk = Desk()
        desk.say("keep a 9 4 3 8")
        self.assertEqual(desk.say(f"do a {show_plan(plan)}"), show_row(store.row()))
        for many in range(len(plan), 0, -1):
            self.assertEqual(after((9, 4, 3, 8), plan[:many]), store.row())
            store.back()
        self.assertEqual(store.row(), (9, 4, 3, 8))

    def test_roads_done_in_a_store(self):
        rows = ((9, 4, 3, 8), (3, 4, 9, 8), (16, 0, 6, 2), (2, 0, 4, 18), (12, 0, 12, 0))
        for row, other in itertools.product(rows, repeat=2):
            plan = road(row, other)
            if plan is None:
                continue
            store = Store(row)
            store.aim("goal", other)
            for run in plan:
                self.assertIn(store.state("goal"), ("open", "met"))
                store.run(*run)
            self.assertEqual(store.state("goal"), "met")
            self.assertEqual((store.calls(), store.deeds()), (len(plan), deeds_in(plan)))
            for _ in plan:
                store.back()
            self.assertEqual(store.row(), row)

    def test_a_great_road_in_a_store_and_on_the_desk(self):
        row, other = (12345, 23456, 34567, 1, 28431), (2, 65535, 0, 33261, 2)
        plan = road(row, other)
        store, desk = Store(row), Desk()
        for i, j, k in plan:
            store.run(i, j, k)
        self.assertEqual(store.row(), other)
        desk.say(f"keep n {show_row(row)}")
        desk.say(f"keep m {show_row(other)}")
        self.assertEqual(desk.say("road n m"), show_plan(plan))
        self.assertEqual(desk.say(f"do n {show_plan(plan)}"), show_row(other))
        self.assertEqual(desk.say("road n m"), "-")

    def test_fewest_ways_done_in_a_store(self):
        for other in sorted(all_that_come((1, 3, 5)))[::4]:
            store = Store((1, 3, 5))
            for deed in first_way((1, 3, 5), other):
                store.give(*deed)
            self.assertEqual((store.row(), store.deeds()), (other, deeds_to((1, 3, 5), other)))


if __name__ == "__main__":
    unittest.main()
