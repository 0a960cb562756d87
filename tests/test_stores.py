"""Stores, of [2], [3] (h), [16] and [17]."""

import random
import unittest

from kinds import Prickly, no_places, strange_things
from matchgift.errors import GiftError, NoBack, NoDeed, NoName, NoRow
from matchgift.stores import Store
from plain import all_that_come, behind_deeds, done, rows_of, whole_walk

MOST = 100000
GREATEST = 10 ** 30 - 1
NO_NAMES = (
    "", "abcdefghi", "A", "aB", "abC", "Abcdefgh", "a b", " a", "a ", "a\n", "\n", "a1", "1", "a_b", "a-b", "_", "\u00e4", "\u00df",
    "\u0430", "a\u0301", "\uff41", "\u017f", "\u0131", "a\x00", "\u00aa", "?", "*",
)
NAMES = ("a", "z", "abcdefgh", "zzzzzzzz", "goal", "met", "row", "lost")


def state_told(row, goal, nexts):
    """How a goal stands, by plain going on."""
    if row == goal:
        return "met"
    return "open" if goal in all_that_come(row, nexts) else "lost"


class Record:
    """What a store is to tell, kept deed by deed."""

    def __init__(self, row):
        self.rows = [row]
        self.many = []
        self.goals = {}

    def add(self, row, many):
        self.rows.append(row)
        self.many.append(many)

    def take(self):
        self.rows.pop()
        self.many.pop()


class Stores(unittest.TestCase):
    def refused(self, refusal, call, *asked):
        with self.assertRaises(GiftError) as caught:
            call(*asked)
        self.assertIs(type(caught.exception), refusal, asked)

    def stands(self, store, row, calls, many):
        self.assertEqual(store.row(), row)
        self.assertIs(type(store.row()), tuple)
        self.assertEqual((store.calls(), store.deeds()), (calls, many))
        self.assertEqual((type(store.calls()), type(store.deeds())), (int, int))

    def standing(self, store):
        """All that a store tells of itself."""
        return store.row(), store.calls(), store.deeds(), store.goals()


class MadeTest(Stores):
    def test_ordinary_rows(self):
        for row in ((5,), (5, 3), (0, 7, 0), (1,) * 12, (MOST,), (MOST - 1, 1), (0, 50000, 50000)):
            self.stands(Store(row), row, 0, 0)
            self.assertEqual(Store(row).goals(), ())

    def test_one_more_than_the_most(self):
        for row in ((MOST + 1,), (MOST, 1), (50000, 50001), (GREATEST,), (10 ** 29, 1, 2)):
            self.refused(NoRow, Store, row)

    def test_what_is_no_row(self):
        for thing in strange_things() + [0, 5, -1, [5, 3], (0,), (0, 0), (1,) * 13, (-1, 2), (1, True), (1, None), "5 3"]:
            self.refused(NoRow, Store, thing)

    def test_by_name(self):
        self.stands(Store(row=(5, 3)), (5, 3), 0, 0)


class CallsTest(Stores):
    def test_gives(self):
        store = Store((5, 3, 4))
        self.assertIsNone(store.give(0, 1))
        self.stands(store, (2, 6, 4), 1, 1)
        self.assertIsNone(store.give(j=2, i=1))
        self.stands(store, (2, 2, 8), 2, 2)
        store.give(1, 0)
        self.stands(store, (4, 0, 8), 3, 3)

    def test_runs(self):
        store = Store((5, 3, 4))
        self.assertIsNone(store.run(0, 1, 2))
        self.stands(store, (4, 4, 4), 1, 2)
        self.assertIsNone(store.run(k=1, j=2, i=1))
        self.stands(store, (4, 0, 8), 2, 3)

    def test_a_run_of_no_deeds_counts(self):
        store = Store((5, 3, 4))
        store.run(0, 1, 0)
        self.stands(store, (5, 3, 4), 1, 0)
        store.give(0, 1)
        store.run(1, 0, 0)
        self.stands(store, (2, 6, 4), 3, 1)
        store.back()
        self.stands(store, (2, 6, 4), 2, 1)
        store.back()
        store.back()
        self.stands(store, (5, 3, 4), 0, 0)
        self.refused(NoBack, store.back)

    def test_as_many_deeds_as_thirty_figures_tell(self):
        store = Store((2, 1, 9))
        store.run(0, 1, GREATEST)
        self.stands(store, (1, 2, 9), 1, GREATEST)
        store.run(1, 0, GREATEST - 1)
        self.stands(store, (1, 2, 9), 2, 2 * GREATEST - 1)
        store.give(2, 1)
        self.stands(store, (1, 4, 7), 3, 2 * GREATEST)
        store.back()
        store.back()
        self.stands(store, (1, 2, 9), 1, GREATEST)

    def test_back(self):
        store = Store((5, 3))
        self.refused(NoBack, store.back)
        store.run(0, 1, 3)
        self.assertIsNone(store.back())
        self.stands(store, (5, 3), 0, 0)
        for _ in range(3):
            self.refused(NoBack, store.back)
            self.stands(store, (5, 3), 0, 0)
        store.give(0, 1)
        store.give(1, 0)
        store.back()
        store.give(1, 0)
        store.give(1, 0)
        self.stands(store, (8, 0), 3, 3)
        for _ in range(3):
            store.back()
        self.refused(NoBack, store.back)

    def test_what_may_not_be_done(self):
        store = Store((5, 3, 0, 4))
        store.give(0, 1)
        store.aim("goal", (2, 6, 0, 4))
        before = self.standing(store)
        for i, j in ((0, 0), (0, 1), (0, 2), (2, 0), (0, 4), (-1, 0), (3, 1), (True, 0), (1, False), (0, None)):
            self.refused(NoDeed, store.give, i, j)
            self.refused(NoDeed, store.lost_by, i, j)
        for run in ((0, 0, 1), (0, 2, 0), (0, 1, 3), (0, 1, -1), (0, 1, True), (0, 1, None), (4, 0, 1), (0, -1, 1)):
            self.refused(NoDeed, store.run, *run)
        self.assertEqual(self.standing(store), before)

    def test_anything(self):
        store = Store((5, 3))
        for thing in no_places(2):
            for place in (0, 1, thing, None):
                self.refused(NoDeed, store.give, thing, place)
                self.refused(NoDeed, store.give, place, thing)
                self.refused(NoDeed, store.lost_by, thing, place)
                self.refused(NoDeed, store.lost_by, place, thing)
            self.refused(NoDeed, store.run, thing, 1, 1)
            self.refused(NoDeed, store.run, 0, thing, 1)
            self.refused(NoDeed, store.run, thing, thing, thing)
        for thing in strange_things():
            self.refused(NoDeed, store.run, 0, 1, thing)
        self.stands(store, (5, 3), 0, 0)
        self.assertEqual(store, Store((5, 3)))


class HistoryTest(Stores):
    """Gives, runs, backs and goals held against a record, deed by deed."""

    def one_call(self, chance, store, record, names, goals):
        row = record.rows[-1]
        i, j, k = chance.randrange(len(row)), chance.randrange(len(row)), chance.randrange(5)
        kind = chance.choice(("give", "give", "run", "run", "back", "aim"))
        if kind == "give":
            may = i != j and row[i] >= row[j] > 0
            if may:
                store.give(i, j)
                record.add(done(row, ((i, j, 1),)), 1)
            else:
                self.refused(NoDeed, store.give, i, j)
        elif kind == "run":
            behind = done(row, ((i, j, k),))
            if behind is not None:
                store.run(i, j, k)
                record.add(behind, k)
            else:
                self.refused(NoDeed, store.run, i, j, k)
        elif kind == "back":
            if record.many:
                store.back()
                record.take()
            else:
                self.refused(NoBack, store.back)
        else:
            name, goal = chance.choice(names), chance.choice(goals)
            store.aim(name, goal)
            record.goals[name] = goal

    def lost_told(self, record, i, j, nexts):
        row = record.rows[-1]
        behind = done(row, ((i, j, 1),))
        return tuple(
            name for name in sorted(record.goals)
            if state_told(row, record.goals[name], nexts) != "lost" == state_told(behind, record.goals[name], nexts)
        )

    def held(self, store, record, nexts):
        row = record.rows[-1]
        self.stands(store, row, len(record.many), sum(record.many))
        goals = tuple((name, state_told(row, goal, nexts)) for name, goal in sorted(record.goals.items()))
        self.assertEqual(store.goals(), goals)
        for name, state in goals:
            self.assertEqual(store.state(name), state)
        for i in range(len(row)):
            for j in range(len(row)):
                if i != j and row[i] >= row[j] > 0:
                    self.assertEqual(store.lost_by(i, j), self.lost_told(record, i, j, nexts))
                else:
                    self.refused(NoDeed, store.lost_by, i, j)

    def test_small_rows(self):
        chance = random.Random(5)
        for begun in ((5, 3), (1, 2, 3), (1, 3, 5), (4, 4, 4), (2, 2, 1, 1), (0, 3, 4, 2), (1, 6), (3, 3, 2)):
            goals = rows_of(len(begun), sum(begun)) + [begun[:-1] + (begun[-1] + 1,)]
            nexts = {}
            for _ in range(6):
                store, record = Store(begun), Record(begun)
                for _ in range(40):
                    self.one_call(chance, store, record, ("a", "b", "cd", "zz"), goals)
                    self.held(store, record, nexts)


class GoalsTest(Stores):
    def test_states(self):
        store = Store((1, 3, 5))
        self.assertIsNone(store.aim("here", (1, 3, 5)))
        store.aim(other=(2, 2, 5), name="there")
        store.aim("never", (1, 1, 7))
        self.assertEqual(store.goals(), (("here", "met"), ("never", "lost"), ("there", "open")))
        self.assertEqual([store.state(name) for name in ("here", "there", "never")], ["met", "open", "lost"])
        self.assertEqual(store.state(name="here"), "met")
        store.give(1, 0)
        self.assertEqual(store.goals(), (("here", "lost"), ("never", "lost"), ("there", "met")))

    def test_a_lost_goal_is_open_again_behind_back(self):
        store = Store((3, 3, 2))
        store.aim("a", (1, 2, 5))
        store.give(0, 1)
        self.assertEqual(store.state("a"), "lost")
        store.run(1, 2, 1)
        store.back()
        self.assertEqual(store.state("a"), "lost")
        store.back()
        self.assertEqual(store.state("a"), "open")

    def test_goals_stay_behind_back(self):
        store = Store((5, 3))
        store.give(0, 1)
        store.aim("a", (2, 6))
        self.assertEqual(store.goals(), (("a", "met"),))
        store.back()
        self.assertEqual(store.goals(), (("a", "open"),))

    def test_put_anew(self):
        store = Store((5, 3))
        store.aim("a", (2, 6))
        store.aim("a", (3, 5))
        self.assertEqual(store.goals(), (("a", "lost"),))
        store.aim("a", (5, 3))
        self.assertEqual(store.goals(), (("a", "met"),))

    def test_rising(self):
        store = Store((5, 3))
        for name in ("b", "aa", "z", "a", "ab"):
            store.aim(name, (2, 6))
        self.assertEqual([name for name, _ in store.goals()], ["a", "aa", "ab", "b", "z"])
        self.assertEqual(store.lost_by(0, 1), ())
        store.aim("y", (5, 3))
        store.aim("c", (5, 3))
        self.assertEqual(store.lost_by(0, 1), ("c", "y"))
        self.assertEqual(store.lost_by(j=1, i=0), ("c", "y"))

    def test_lost_by_leaves_all_as_it_was(self):
        store = Store((5, 3))
        store.aim("a", (5, 3))
        before = self.standing(store)
        self.assertEqual(store.lost_by(0, 1), ("a",))
        self.assertIs(type(store.lost_by(0, 1)), tuple)
        self.assertEqual(self.standing(store), before)

    def test_what_is_lost_already_is_not_lost_by_a_deed(self):
        store = Store((5, 3))
        store.aim("a", (3, 5))
        store.aim("b", (7, 1))
        self.assertEqual(store.lost_by(0, 1), ())

    def test_which_of_two_alike_gives(self):
        store = Store((4, 4))
        store.aim("left", (8, 0))
        store.aim("right", (0, 8))
        self.assertEqual(store.goals(), (("left", "open"), ("right", "open")))
        self.assertEqual((store.lost_by(0, 1), store.lost_by(1, 0)), (("left",), ("right",)))

    def test_goals_of_other_sums(self):
        store = Store((1, 2, 4))
        store.aim("more", (1, 2, 5))
        store.aim("great", (1, 2, GREATEST - 3))
        store.aim("few", (0, 0, 1))
        self.assertEqual(store.goals(), (("few", "lost"), ("great", "lost"), ("more", "lost")))

    def test_a_pair_with_just_the_most(self):
        store = Store((1, MOST - 1))
        store.aim("far", (65536, 34464))
        store.aim("none", (6, 99994))
        store.aim("late", whole_walk(1, MOST - 1)[0][-1])
        self.assertEqual(store.goals(), (("far", "open"), ("late", "open"), ("none", "lost")))
        # The sum has five twos: by so many deeds the two come to their ring, where far and late are.
        store.aim("near", (2, MOST - 2))
        store.run(0, 1, 1)
        self.assertEqual(store.state("near"), "met")
        self.assertEqual(store.lost_by(1, 0), ("near",))
        store.run(0, 1, 15)
        self.assertEqual(store.goals(), (("far", "met"), ("late", "open"), ("near", "lost"), ("none", "lost")))
        self.assertEqual(store.lost_by(0, 1), ())

    def test_names(self):
        store = Store((5, 3))
        for name in NAMES:
            self.assertIsNone(store.aim(name, (5, 3)))
            self.assertEqual(store.state(name), "met")
        self.assertEqual([name for name, _ in store.goals()], sorted(NAMES))

    def test_no_names(self):
        store = Store((5, 3))
        store.aim("a", (5, 3))
        for name in NO_NAMES + tuple(strange_things()) + (0, 1, b"a", ("a",), ["a"]):
            self.refused(NoName, store.aim, name, (5, 3))
            self.refused(NoName, store.state, name)
        self.assertEqual(store.goals(), (("a", "met"),))

    def test_names_that_keep_no_goal(self):
        store = Store((5, 3))
        self.refused(NoName, store.state, "a")
        store.aim("a", (5, 3))
        for name in ("b", "aa", "zzzzzzzz"):
            self.refused(NoName, store.state, name)

    def test_no_rows_of_as_many_places(self):
        store = Store((5, 3))
        store.aim("a", (2, 6))
        for thing in strange_things() + [0, [5, 3], (8,), (5, 3, 0), (0, 0), (5, -1), (True, 3), (5, "3"), (GREATEST, 1), "5 3"]:
            self.refused(NoRow, store.aim, "a", thing)
            self.refused(NoRow, store.aim, "b", thing)
            # The name is asked first.
            self.refused(NoName, store.aim, "A", thing)
            self.refused(NoName, store.aim, None, thing)
        self.assertEqual(store.goals(), (("a", "open"),))


class EqualTest(Stores):
    def like(self, one, other):
        self.assertTrue(one == other)
        self.assertTrue(other == one)
        self.assertFalse(one != other)
        self.assertIs(one == other, True)

    def unlike(self, one, other):
        self.assertFalse(one == other)
        self.assertFalse(other == one)
        self.assertTrue(one != other)
        self.assertIs(one == other, False)

    def test_new_ones(self):
        self.like(Store((5, 3)), Store((5, 3)))
        self.unlike(Store((5, 3)), Store((3, 5)))
        self.unlike(Store((5, 3)), Store((5, 3, 0)))

    def test_the_same_calls(self):
        one, other = Store((5, 3)), Store((5, 3))
        one.give(0, 1)
        self.unlike(one, other)
        other.give(0, 1)
        self.like(one, other)
        one.run(0, 1, 1)
        self.unlike(one, other)
        one.back()
        self.like(one, other)

    def test_a_give_is_no_run_of_one(self):
        one, other = Store((5, 3)), Store((5, 3))
        one.give(0, 1)
        other.run(0, 1, 1)
        self.assertEqual(self.standing(one), self.standing(other))
        self.unlike(one, other)

    def test_the_same_row_by_other_calls(self):
        one, other = Store((5, 3)), Store((5, 3))
        one.run(0, 1, 2)
        other.give(0, 1)
        other.give(1, 0)
        self.assertEqual(one.row(), other.row())
        self.unlike(one, other)
        self.unlike(one, Store((4, 4)))
        one, other = Store((5, 3)), Store((5, 3))
        one.run(0, 1, 2)
        other.run(1, 0, 2)
        self.unlike(one, other)
        one, other = Store((2, 1)), Store((2, 1))
        one.run(0, 1, 2)
        other.run(0, 1, 4)
        self.unlike(one, other)
        other.back()
        self.unlike(one, other)
        one.back()
        self.like(one, other)

    def test_a_run_of_no_deeds(self):
        one, other = Store((5, 3)), Store((5, 3))
        one.run(0, 1, 0)
        self.unlike(one, other)
        other.run(0, 1, 0)
        self.like(one, other)

    def test_goals_in_another_order(self):
        one, other = Store((5, 3)), Store((5, 3))
        for name, goal in (("a", (2, 6)), ("b", (5, 3)), ("c", (3, 5))):
            one.aim(name, goal)
        for name, goal in (("c", (3, 5)), ("a", (5, 3)), ("b", (5, 3)), ("a", (2, 6))):
            other.aim(name, goal)
        self.like(one, other)
        other.aim("a", (4, 4))
        self.assertEqual(one.goals(), other.goals())
        self.unlike(one, other)

    def test_goals_more_or_of_other_names(self):
        one, other = Store((5, 3)), Store((5, 3))
        one.aim("a", (2, 6))
        self.unlike(one, other)
        other.aim("b", (2, 6))
        self.unlike(one, other)
        other.aim("a", (2, 6))
        self.unlike(one, other)

    def test_nothing_else(self):
        store = Store((5, 3))
        for thing in strange_things() + [(5, 3), [5, 3], "5 3", 0, 8, Store, object()]:
            self.assertIs(store == thing, False)
            self.assertIs(store != thing, True)
        self.assertIs(store == Prickly(), False)

    def test_two_stores_do_not_touch_each_other(self):
        row = (5, 3, 4)
        one, other = Store(row), Store(row)
        one.give(0, 1)
        one.aim("a", (5, 3, 4))
        self.stands(other, row, 0, 0)
        self.assertEqual(other.goals(), ())
        self.refused(NoBack, other.back)
        other.run(2, 1, 1)
        self.stands(one, (2, 6, 4), 1, 1)
        self.assertEqual(row, (5, 3, 4))

    def test_asked_again_the_same_is_told(self):
        store = Store((5, 3, 4))
        store.give(0, 1)
        store.aim("a", (2, 6, 4))
        for _ in range(3):
            self.assertEqual(self.standing(store), ((2, 6, 4), 1, 1, (("a", "met"),)))
        self.assertTrue(behind_deeds(store.row()))


class InterfaceTest(Stores):
    def test_each_method_stands_in_the_class_itself(self):
        for name in "__init__ __eq__ row give run back calls deeds aim state goals lost_by".split():
            self.assertIn(name, vars(Store))


if __name__ == "__main__":
    unittest.main()
