"""Promises 4 and 65, sentence by sentence, and what promise 2 says over the whole program."""

import inspect
import itertools
import random
import unittest

import mustmay.errors
from mustmay.cleaning import is_torn_row, torn_row
from mustmay.desk import Desk
from mustmay.division import division, over, spoiler
from mustmay.errors import HallError, TooMany, Unlike
from mustmay.halls import hall_apart, least_hall
from mustmay.least import alike, least, parting
from mustmay.meeting import meeting, met
from mustmay.pairs import fault_at, is_table, row_apart, table_of, within
from mustmay.plans import Plan, free_plan, need_same
from mustmay.sides import beside
from samples import SHUT, all_halls, all_plans, doubled, fits, full_plan, gone_rows, line_halls, line_plan, may, must, plan_of
from samples import ring_plan, rooms_of, some_plans, told_of, unlike_pairs

ONE_ACTION = all_plans(2, 1)
ONE_ROOM = all_plans(1, 2)
PLANS = some_plans(140, 14, 4, 2, ("must", "may", "may", "shut")) + all_plans(2, 2)[11::90]
MUSTS = some_plans(141, 14, 4, 2, ("must", "must", "may", "shut"))
# All halls over one action, as far as plans of two rooms can tell them apart.
LINES = line_halls(8)
FAMILIES = ((ONE_ACTION, LINES), (ONE_ROOM, all_halls(1, 2) + all_halls(2, 2)[::5]), (PLANS, all_halls(2, 2)))


def nothing_or(work, one, other):
    """For the sums: nothing met with anything is nothing, and so is nothing over a plan."""
    return None if one is None or other is None else work(one, other)


def answer_of(work, *plans):
    """What is told, or TooMany."""
    try:
        return told_of(work(*plans))
    except TooMany:
        return "refused"


class SentenceTest(unittest.TestCase):
    def test_within_just_where_every_hall_that_fits_the_first_fits_the_second(self):
        for plans, halls in FAMILIES:
            fitting = [[fits(hall, plan) for hall in halls] for plan in plans]
            for (one, mine), (other, theirs) in itertools.product(list(zip(plans, fitting)), repeat=2):
                table = table_of(one, other)
                self.assertEqual(table is not None, within(one, other))
                if table is not None:
                    self.assertTrue(is_table(one, other, table))
                    self.assertFalse(any(has and not its for has, its in zip(mine, theirs)))
                    self.assertIsNone(hall_apart(one, other))
                else:
                    self.check_hall_apart(one, other)

    def check_hall_apart(self, one, other):
        hall, row, action = hall_apart(one, other)
        self.assertTrue(fits(hall, one))
        self.assertFalse(fits(hall, other))
        self.assertEqual(row_apart(one, other)[:2], (row, action))
        # Behind the row it fails, and behind no shorter one.
        self.assertIsNotNone(fault_at(hall, hall.after(row), other, other.after(row)))
        for shorter, room in gone_rows(hall, len(row) - 1):
            self.assertIsNone(fault_at(hall, room, other, other.after(shorter)))

    def test_over_one_action_halls_tell_plans_apart(self):
        for one, other in itertools.product(ONE_ACTION, repeat=2):
            wanted = all(fits(hall, other) for hall in LINES if fits(hall, one))
            self.assertEqual(within(one, other), wanted)

    def test_a_meeting_is_fitted_by_just_the_halls_that_fit_both(self):
        for plans, halls in FAMILIES:
            for one, other in itertools.combinations(plans, 2):
                plan = met(one, other)
                for hall in halls[::3]:
                    both = fits(hall, one) and fits(hall, other)
                    self.assertEqual(plan is not None and fits(hall, plan), both)
                if plan is None:
                    self.check_torn(meeting(one, other)[0])

    def check_torn(self, draft):
        rows = torn_row(draft)
        self.assertTrue(is_torn_row(draft, rows))
        torn = {row[0] for row in rows}
        self.assertIn(0, torn)
        # Every row that is let by speaks of rooms that contradict themselves alone.
        chance = random.Random(len(rows))
        for time in range(10):
            three = [tuple(chance.randrange(4) for place in range(3)) for many in range(chance.randint(1, 3))]
            if is_torn_row(draft, three):
                self.assertLessEqual({row[0] for row in three}, torn)

    def test_halls_that_fit_two_plans_fit_them_side_by_side(self):
        for plans, halls in ((ONE_ACTION, LINES[::2]), (ONE_ROOM[::2], all_halls(1, 2)), (PLANS[::4], all_halls(2, 2)[::9])):
            for one, other in itertools.product(plans, repeat=2):
                both = beside(one, other)
                first = [hall for hall in halls if fits(hall, one)] + [least_hall(one)]
                second = [hall for hall in halls if fits(hall, other)] + [least_hall(other)]
                for hall, its in itertools.product(first, second):
                    self.assertTrue(fits(beside(hall, its), both))

    def test_a_division_is_fitted_by_just_the_halls_that_fit_with_any_hall_of_the_part(self):
        for whole, part in itertools.product(ONE_ACTION, repeat=2):
            told = over(whole, part)
            others = [other for other in LINES if fits(other, part)]
            for hall in LINES[:5] + LINES[-1:]:
                wanted = all(fits(beside(hall, other), whole) for other in others)
                self.assertEqual(told is not None and fits(hall, told), wanted)
                self.check_spoiler(whole, part, hall, wanted)

    def check_spoiler(self, whole, part, hall, fitting):
        told = spoiler(whole, part, hall)
        self.assertEqual(told is None, fitting)
        if told is not None:
            self.assertTrue(fits(told[0], part))
            self.assertFalse(fits(beside(hall, told[0]), whole))

    def test_for_any_other_hall_a_spoiler_is_told(self):
        for whole, part, hall in itertools.product(PLANS[::2], MUSTS[::2], all_halls(2, 2)[::9]):
            told = over(whole, part)
            self.check_spoiler(whole, part, hall, told is not None and fits(hall, told))

    def test_within_a_division_just_where_side_by_side_within_the_whole(self):
        for plans, parts in ((ONE_ACTION, ONE_ACTION[::2]), (ONE_ROOM, ONE_ROOM), (PLANS, MUSTS)):
            for whole, part in itertools.product(plans, parts):
                told = over(whole, part)
                for plan in plans:
                    self.assertEqual(told is not None and within(plan, told), within(beside(part, plan), whole))

    def test_the_least_plan_has_the_same_halls_and_no_two_rooms_alike(self):
        for plans, halls in FAMILIES:
            for plan in plans:
                small = least(plan)
                self.assertTrue(alike(plan, small))
                for hall in halls:
                    self.assertEqual(fits(hall, plan), fits(hall, small))
                for room, other in itertools.combinations(range(small.many()), 2):
                    self.assertIsNotNone(parting(small, room, other))


class AlikeTest(unittest.TestCase):
    """Plans that are alike give the same answers: the very same least plan, or the same refusal."""

    def check(self, work, one, other):
        told = answer_of(work, one, other)
        for first, second in itertools.product((least(one), doubled(one)), (least(other), doubled(other))):
            self.assertEqual(answer_of(work, first, second), told)

    def test_small_plans(self):
        for work in (met, beside, over):
            for one, other in itertools.product(ONE_ACTION[::2], repeat=2):
                self.check(work, one, other)
            for one, other in itertools.product(PLANS, MUSTS):
                self.check(work, one, other)

    def test_refusals(self):
        for work, pair in itertools.product((met, beside, over), ((25, 24), (24, 25), (25, 25), (601, 1), (1, 601), (300, 2), (301, 2))):
            plans = [line_plan(many) for many in pair]
            self.check(work, *plans)
            self.assertEqual(answer_of(work, *plans) == "refused", pair[0] * pair[1] > 600)

    def test_within_and_halls(self):
        for one, other in itertools.product(PLANS, MUSTS):
            for first, second in ((least(one), doubled(other)), (doubled(one), least(other))):
                self.assertEqual(within(first, second), within(one, other))
                self.assertEqual(row_apart(first, second), row_apart(one, other))
                told, again = hall_apart(one, other), hall_apart(first, second)
                self.assertEqual(told and (told[0].told(),) + told[1:], again and (again[0].told(),) + again[1:])


class SumsTest(unittest.TestCase):
    """Promise 65, and what promise 4 says of orders."""

    def each(self, kinds):
        """Threes of small plans."""
        one, two, third = kinds
        yield from itertools.product(ONE_ACTION[::3], ONE_ACTION[1::3], ONE_ACTION)
        yield from itertools.product(ONE_ROOM, repeat=3)
        yield from itertools.product(one[::2], two, third[::2])

    def test_a_meeting_over_a_part(self):
        found = {True: 0, False: 0}
        for one, other, part in self.each((PLANS, PLANS, MUSTS)):
            told = told_of(nothing_or(over, met(one, other), part))
            self.assertEqual(told, told_of(nothing_or(met, over(one, part), over(other, part))))
            found[told is None] += 1
        self.assertGreater(min(found.values()), 200)

    def test_over_one_part_and_then_over_another(self):
        found = {True: 0, False: 0}
        for whole, part, other in self.each((PLANS, MUSTS, MUSTS)):
            told = told_of(nothing_or(over, over(whole, part), other))
            self.assertEqual(told, told_of(over(whole, beside(part, other))))
            self.assertEqual(told, told_of(nothing_or(over, over(whole, other), part)))
            found[told is None] += 1
        self.assertGreater(min(found.values()), 200)

    def test_side_by_side_in_whatever_order(self):
        for three in self.each((PLANS, MUSTS, PLANS)):
            told = beside(beside(three[0], three[1]), three[2]).told()
            for one, two, third in itertools.permutations(three):
                self.assertEqual(beside(one, beside(two, third)).told(), told)

    def test_met_in_whatever_order_and_how_often(self):
        for three in self.each((PLANS, MUSTS, PLANS)):
            told = told_of(nothing_or(met, met(three[0], three[1]), three[2]))
            for one, two, third in ((1, 2, 0), (2, 0, 1), (2, 1, 0)):
                first = nothing_or(met, three[one], met(three[two], three[third]))
                self.assertEqual(told_of(first), told)
                self.assertEqual(told_of(nothing_or(met, first, three[two])), told)

    def test_nothing_in_a_sum(self):
        # Nothing can be met here, nor divided.
        must_be, never = plan_of([[must(0)]]), plan_of([[SHUT]])
        self.assertIsNone(met(must_be, never))
        self.assertIsNone(nothing_or(met, over(must_be, full_plan(["a"])), over(never, full_plan(["a"]))))
        self.assertIsNone(over(must_be, never))
        self.assertIsNone(over(must_be, beside(full_plan(["a"]), never)))


class DeskTest(unittest.TestCase):
    def test_behind_every_change_each_claim_is_told_as_a_new_desk_tells_it(self):
        plans = ONE_ACTION[::2]
        lines = ("meet m p q", "over o p q", "beside b m q", "claim within p q", "claim alike m p", "claim some o", "claim within b o")
        desk = Desk(["a"])
        for line in (f"plan p {rooms_of(plans[0])}", f"plan q {rooms_of(plans[0])}") + lines:
            desk.say(line)
        for one, other in itertools.product(plans, repeat=2):
            desk.say(f"change p {rooms_of(one)}")
            desk.say(f"change q {rooms_of(other)}")
            fresh = Desk(["a"])
            for line in (f"plan p {rooms_of(one)}", f"plan q {rooms_of(other)}") + lines:
                fresh.say(line)
            self.assertEqual(desk.say("claims"), fresh.say("claims"))


class WholeProgramTest(unittest.TestCase):
    """Promise 2."""

    two_plans = (need_same, alike, table_of, within, row_apart, hall_apart, meeting, met, beside, division, over)

    def test_unlike(self):
        for one, other in unlike_pairs():
            for work in self.two_plans:
                with self.assertRaises(Unlike):
                    work(one, other)
            with self.assertRaises(Unlike):
                fault_at(one, 0, other, 0)
            with self.assertRaises(Unlike):
                is_table(one, other, [(0, 0)])

    def test_unlike_ahead_of_every_other_refusal(self):
        line = line_plan(2000)
        other = Plan(["b"], line.told())
        hall = Plan(["a"], line_plan(2000, must).told())
        for pair in ((line, other), (other, line)):
            for work in self.two_plans:
                with self.assertRaises(Unlike):
                    work(*pair)
            with self.assertRaises(Unlike):
                spoiler(*pair, hall)

    def test_refusals_stand_straight_under_one(self):
        kinds = [kind for name, kind in inspect.getmembers(mustmay.errors, inspect.isclass) if kind is not HallError]
        self.assertEqual(len(kinds), 10)
        for kind in kinds:
            self.assertEqual(kind.__bases__, (HallError,))

    def test_the_interface(self):
        for work, names in (
            (division, ["whole", "part"]), (over, ["whole", "part"]), (spoiler, ["whole", "part", "hall"]),
            (Desk, ["actions"]), (Desk.say, ["self", "line"]), (met, ["one", "other"]), (beside, ["one", "other"]),
        ):
            self.assertEqual(list(inspect.signature(work).parameters), names)

    def test_plans_never_change(self):
        plans = [ring_plan(3, 2), full_plan(["a", "b"]), free_plan(["a", "b"]), plan_of([[may(1), SHUT], [must(0), may(1)]])]
        before = [plan.told() for plan in plans]
        for one, other in itertools.product(plans, repeat=2):
            for work in self.two_plans:
                work(one, other)
            spoiler(one, other, plans[1])
        self.assertEqual([plan.told() for plan in plans], before)


if __name__ == "__main__":
    unittest.main()
