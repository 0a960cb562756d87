"""Plans judged, of [2], [3] (b), (c), [8] and [9]."""

import itertools
import unittest

from kinds import Prickly, nested, no_places, strange_things
from matchgift.errors import GiftError, NoDeed
from matchgift.gathers import gather
from matchgift.plans import after, deeds_in, shows_plan
from plain import done, rows_of

GREATEST = 10 ** 30 - 1


class Judged(unittest.TestCase):
    def leads(self, row, plan, behind):
        told = after(row, plan)
        self.assertEqual(told, behind, (row, plan))
        self.assertIs(type(told), tuple)
        self.assertIs(shows_plan(row, behind, plan), True)
        unlike = (behind[0] + 1,) + behind[1:]
        self.assertIs(shows_plan(row, unlike, plan), False)
        self.assertIs(shows_plan(row, behind + (0,), plan), False)

    def refused(self, row, thing, others=()):
        with self.assertRaises(GiftError) as caught:
            after(row, thing)
        self.assertIs(type(caught.exception), NoDeed)
        for other in (row,) + tuple(others):
            self.assertIs(shows_plan(row, other, thing), False)


class PlanTest(Judged):
    def test_no_runs(self):
        for row in ((5, 3), (7,), (0, 4), (GREATEST,), (1,) * 12):
            self.leads(row, (), row)
        self.assertEqual(deeds_in(()), 0)
        self.assertIs(type(deeds_in(())), int)
        self.assertIs(shows_plan((5, 3), (3, 5), ()), False)

    def test_runs_of_no_deeds(self):
        self.leads((5, 3, 0), ((0, 1, 0),), (5, 3, 0))
        self.leads((5, 3, 0), ((0, 1, 0), (1, 0, 0), (0, 1, 0)), (5, 3, 0))
        self.leads((5, 3, 0), ((0, 1, 0), (0, 1, 1), (1, 0, 0)), (2, 6, 0))
        self.assertEqual(deeds_in(((0, 1, 0), (1, 0, 0))), 0)
        # Who has nothing does no run, not even one of no deeds.
        self.refused((5, 3, 0), ((0, 2, 0),))
        self.refused((5, 3, 0), ((2, 0, 0),))
        self.refused((4, 4), ((0, 1, 1), (0, 1, 0)), [(0, 8)])

    def test_one_behind_the_other(self):
        self.leads((5, 3, 4), ((0, 1, 1),), (2, 6, 4))
        self.leads((5, 3, 4), ((0, 1, 1), (1, 2, 1)), (2, 2, 8))
        self.leads((5, 3, 4), ((0, 1, 1), (1, 2, 1), (1, 0, 1)), (4, 0, 8))
        self.leads((5, 3, 4), ((0, 1, 3),), (0, 8, 4))
        self.leads((5, 3, 4), ((1, 0, 3), (2, 0, 1)), (4, 0, 8))

    def test_as_many_deeds_as_have_thirty_figures(self):
        self.leads((2, 1), ((0, 1, GREATEST),), (1, 2))
        self.leads((2, 1), ((0, 1, GREATEST), (1, 0, GREATEST)), (2, 1))
        self.assertEqual(deeds_in(((0, 1, GREATEST), (1, 0, GREATEST))), 2 * GREATEST)

    def test_many_runs(self):
        self.leads((2, 1, 9), ((0, 1, 1),) * 20000, (2, 1, 9))
        self.leads((2, 1, 9), ((0, 1, 1),) * 20001, (1, 2, 9))
        self.refused((2, 1, 9), ((0, 1, 1),) * 20000 + ((0, 1, -1),), [(2, 1, 9)])
        self.assertEqual(deeds_in(((0, 1, 1),) * 20001), 20001)

    def test_all_short_plans_of_small_rows_deed_by_deed(self):
        runs = [(i, j, k) for i, j in itertools.product(range(3), repeat=2) for k in (0, 1, 2)]
        plans = [plan for many in (0, 1, 2) for plan in itertools.product(runs, repeat=many)]
        for row in rows_of(3, 5) + rows_of(3, 8)[::3]:
            others = rows_of(3, sum(row))[::4]
            for plan in plans:
                behind = done(row, plan)
                if behind is None:
                    self.refused(row, plan)
                else:
                    self.assertEqual(after(row, plan), behind)
                    self.assertIs(shows_plan(row, behind, plan), True)
                for other in others:
                    self.assertIs(shows_plan(row, other, plan), other == behind)

    def test_plans_that_gather_tells(self):
        for row in ((5, 4, 3), (1, 2, 3, 4, 5, 6), (7,) * 12, (10 ** 29, 3 ** 60, 7 ** 30)):
            plan = gather(row)
            self.leads(row, plan, done(row, plan))
            self.assertEqual(deeds_in(plan), sum(run[2] for run in plan))


class RunThatMayNotBeDoneTest(Judged):
    def test_first_middle_or_last(self):
        row = (2, 1, 9, 0)
        good = ((0, 1, 1), (2, 0, 1), (2, 1, 2))
        behind = done(row, good)
        self.leads(row, good, behind)
        bad_runs = [
            (0, 0, 1), (0, 3, 1), (3, 0, 0), (0, 4, 1), (-1, 0, 1), (0, 1, -1), (0, -3, 1), (4, 5, 0),
            (0, 1), (0, 1, 1, 1), (), [0, 1, 1], "0>1*1", None, 0, True, (0, 1, True), (False, 1, 1), (0, True, 1),
            ((0, 1, 1),), ((0, 1), 1, 1), (0, 1, None), (0, 1, "1"), ("0", 1, 1), (0, 1, (1,)), (0, [1], 1),
        ]
        for bad in bad_runs:
            for at in range(4):
                others = [done(row, good[:many]) for many in range(4)]
                self.refused(row, good[:at] + (bad,) + good[at:], others)

    def test_runs_behind_the_end_of_both(self):
        self.refused((5, 3), ((0, 1, 4),), [(0, 8), (8, 0)])
        self.refused((5, 3), ((0, 1, 3), (0, 1, 1)), [(0, 8)])
        self.refused((5, 3), ((0, 1, 2), (1, 0, 2)), [(0, 8), (8, 0)])
        self.refused((5, 3), ((0, 1, GREATEST),))
        self.refused((5, 3, 1), ((0, 1, 3), (2, 0, 1)), [(0, 8, 1)])

    def test_one_holder(self):
        for run in ((0, 0, 0), (0, 1, 0), (1, 0, 0), (0, 0, 1)):
            self.refused((7,), (run,))


class NoPlanTest(Judged):
    def test_a_list(self):
        self.refused((5, 3), [], [(5, 3)])
        self.refused((5, 3), [(0, 1, 1)], [(2, 6)])
        self.refused((5, 3), ([0, 1, 1],), [(2, 6)])

    def test_a_run_by_itself(self):
        self.refused((5, 3), (0, 1, 1), [(2, 6)])
        self.refused((5, 3), (0, 1, 0))

    def test_other_containers_of_runs(self):
        for thing in ({(0, 1, 1): 1}, {(0, 1, 1)}, iter([(0, 1, 1)]), {}, set(), frozenset(), iter([]), range(0)):
            self.refused((5, 3), thing, [(2, 6)])

    def test_texts_numbers_truths_and_none(self):
        for thing in ("", "-", "0>1*1", b"", 0, 1, -1, GREATEST, True, False, None, ..., object(), Prickly()):
            self.refused((5, 3), thing, [(2, 6)])

    def test_a_truth_for_a_number(self):
        for run in ((0, 1, True), (0, 1, False), (False, 1, 1), (0, True, 1), (True, False, 0)):
            self.refused((5, 3), (run,), [(2, 6)])

    def test_runs_of_two_or_four_parts(self):
        for run in ((), (0,), (0, 1), (0, 1, 1, 0), (0, 1, 1, 1, 1)):
            self.refused((5, 3), (run,), [(2, 6)])
            self.refused((5, 3), ((0, 1, 1), run), [(2, 6)])

    def test_anything_as_plan(self):
        for thing in strange_things():
            # Of all these () alone is a plan that may be done here.
            if type(thing) is tuple and len(thing) == 0:
                self.leads((4, 4), thing, (4, 4))
            else:
                self.refused((4, 4), thing, [(0, 8)])

    def test_anything_as_a_run(self):
        for thing in strange_things():
            self.refused((5, 3), (thing,))
            self.refused((5, 3), ((0, 1, 1), thing), [(2, 6)])
            self.refused((5, 3), (thing, (0, 1, 1)), [(2, 6)])

    def test_anything_as_a_part_of_a_run(self):
        for thing in no_places(2):
            self.refused((5, 3), ((thing, 1, 1),))
            self.refused((5, 3), ((0, thing, 1),))
        for thing in strange_things():
            self.refused((5, 3), ((0, 1, 1), (0, 1, thing)), [(2, 6)])

    def test_nested_thirty_deep(self):
        for core in ((), (0, 1, 1), ((0, 1, 1),), 1, "0", None):
            for deep in range(1, 31):
                thing = nested(core, deep, lambda inner: (inner,))
                if core == (0, 1, 1) and deep == 1:
                    self.leads((5, 3), thing, (2, 6))
                else:
                    self.refused((5, 3), thing, [(2, 6)])
                self.refused((5, 3), nested(core, deep, lambda inner: [inner]), [(2, 6)])
                self.refused((5, 3), nested(core, deep, lambda inner: (0, inner, 1)), [(2, 6)])
                self.refused((5, 3), nested(core, deep, lambda inner: {0: inner}), [(2, 6)])


class HandedInTest(Judged):
    def test_by_names(self):
        self.assertEqual(after(plan=((0, 1, 3),), row=(5, 3)), (0, 8))
        self.assertIs(shows_plan(thing=((0, 1, 3),), other=(0, 8), row=(5, 3)), True)
        self.assertIs(shows_plan(thing=[(0, 1, 3)], other=(0, 8), row=(5, 3)), False)
        self.assertEqual(deeds_in(plan=((0, 1, 3), (1, 0, 4))), 7)

    def test_what_was_handed_in_stays_as_it_was(self):
        row, plan, thing = (5, 3, 9), ((0, 1, 3),), [(0, 1, 3), [0]]
        for _ in range(3):
            self.leads(row, plan, (0, 8, 9))
            self.refused(row, thing)
            self.refused(row, (thing,))
            self.refused(row, ((0, 1, 1), thing))
        self.assertEqual((row, plan, thing), ((5, 3, 9), ((0, 1, 3),), [(0, 1, 3), [0]]))

    def test_deeds_in_asks_no_row(self):
        self.assertEqual(deeds_in(((0, 1, 4),)), 4)
        self.assertEqual(deeds_in(((0, 11, 10 ** 29), (3, 4, 0), (4, 3, 5))), 10 ** 29 + 5)
        self.assertEqual(deeds_in(((0, 1, 1),) * 7), 7)


if __name__ == "__main__":
    unittest.main()
