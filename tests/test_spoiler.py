import itertools
import unittest

from mustmay.division import over, spoiler
from mustmay.errors import TooMany, Unlike
from mustmay.halls import fullest_hall, least_hall
from mustmay.least import least
from mustmay.pairs import within
from mustmay.plans import Plan, free_plan
from mustmay.sides import beside
from samples import SHUT, all_halls, all_plans, doubled, fits, full_plan, line_halls, line_plan, may, must, plan_of
from samples import ring_plan, some_plans

SMALL = (all_plans(1, 2), all_plans(2, 1))
WHOLES = some_plans(110, 25, 4, 2, ("must", "may", "may", "may", "shut"))
PARTS = some_plans(111, 25, 4, 2, ("must", "must", "may", "shut"))
HALLS = some_plans(112, 25, 4, 2, ("must", "must", "shut"))
ENDLESS = full_plan(["a"])


class SpoilerTest(unittest.TestCase):
    def check_fault(self, whole, other, hall, row, action):
        """What stands behind the row in all three, word by word as promise 64 has it; tells which kind of fault."""
        rooms = [plan.after(row) for plan in (whole, other, hall)]
        self.assertNotIn(None, rooms)
        wide, its, door = [plan.door(room, action) for plan, room in zip((whole, other, hall), rooms)]
        if wide.word() == "shut":
            self.assertTrue(its.allows() and door.allows())
            return "extra"
        self.assertEqual(wide.word(), "must")
        self.assertFalse(its.allows() and door.allows())
        return "lacks"

    def check(self, whole, part, hall):
        told = spoiler(whole, part, hall)
        division = over(whole, part)
        self.assertEqual(told is None, division is not None and fits(hall, division))
        if told is None:
            return None
        self.assertIs(type(told), tuple)
        other, row, action = told
        self.assertIs(type(other), Plan)
        self.assertIs(other.is_finished(), True)
        self.assertEqual(other.action_list(), part.action_list())
        self.assertEqual(least(other).told(), other.told())
        self.assertTrue(fits(other, part))
        self.assertIs(type(row), list)
        self.assertEqual([type(step) for step in row + [action]], [int] * (len(row) + 1))
        self.assertFalse(fits(beside(hall, other), whole))
        return self.check_fault(whole, other, hall, row, action)

    def check_all(self, wholes, parts, halls):
        found = [self.check(*three) for three in itertools.product(wholes, parts, halls)]
        for kind in (None, "extra", "lacks"):
            self.assertGreater(found.count(kind), 20, kind)

    def test_plans_of_one_room(self):
        self.check_all(SMALL[0], SMALL[0], all_halls(1, 2))

    def test_plans_of_two_rooms(self):
        self.check_all(SMALL[1], SMALL[1], all_halls(2, 1))

    def test_larger_plans(self):
        self.check_all(WHOLES, PARTS, HALLS[::2])

    def test_three_actions(self):
        wholes = some_plans(113, 12, 6, 3, ("must", "may", "may", "may", "may", "shut"))
        parts = some_plans(114, 12, 6, 3, ("must", "must", "must", "may", "shut"))
        self.check_all(wholes, parts, some_plans(115, 12, 6, 3, ("must", "must", "must", "shut")))

    def test_extra(self):
        # Both have a door that the whole has shut.
        other, row, action = spoiler(plan_of([[SHUT]]), plan_of([[may(0)]]), ENDLESS)
        self.assertEqual((row, action), ([], 0))
        self.assertEqual(other.door(0, 0).word(), "must")
        other, row, action = spoiler(line_plan(4), plan_of([[may(0)]]), ENDLESS)
        self.assertEqual((row, action), ([0, 0, 0], 0))
        self.assertEqual(other.told(), line_plan(5, must).told())

    def test_the_hall_lacks_a_door(self):
        # The part must have it, but the hall has it not.
        other, row, action = spoiler(plan_of([[must(0)]]), plan_of([[must(0)]]), line_plan(3, must))
        self.assertEqual((row, action), ([0, 0], 0))
        self.assertEqual(other.told(), [[must(0)]])

    def test_the_other_lacks_a_door(self):
        for part in (plan_of([[may(0)]]), plan_of([[SHUT]])):
            for hall in (plan_of([[SHUT]]), ENDLESS):
                other, row, action = spoiler(plan_of([[must(0)]]), part, hall)
                self.assertEqual((other.told(), row, action), ([[SHUT]], [], 0))

    def test_none_for_halls_that_fit(self):
        for whole, part in itertools.product(WHOLES, PARTS):
            division = over(whole, part)
            if division is not None:
                self.assertIsNone(spoiler(whole, part, least_hall(division)))
                self.assertIsNone(spoiler(whole, part, fullest_hall(division)))

    def test_none_where_nothing_can_be_done_together(self):
        # The part never does what the hall does: behind it nothing matters.
        whole = plan_of([[may(1), may(0)], [must(1), SHUT]])
        part = plan_of([[SHUT, may(0)]])
        self.assertIsNone(spoiler(whole, part, plan_of([[must(1), must(0)], [SHUT, must(1)]])))

    def test_where_the_division_is_nothing(self):
        nothing = 0
        for whole, part in itertools.product(SMALL[1], repeat=2):
            if over(whole, part) is None:
                nothing += 1
                for hall in line_halls(4):
                    self.assertIsNotNone(self.check(whole, part, hall))
        self.assertGreater(nothing, 50)

    def test_none_just_where_the_part_and_the_hall_are_within_the_whole(self):
        for whole, part, hall in itertools.product(WHOLES[::2], PARTS[::2], HALLS[::2]):
            self.assertEqual(spoiler(whole, part, hall) is None, within(beside(part, hall), whole))

    def test_plans_that_are_alike(self):
        for whole, part, hall in itertools.product(WHOLES[::4], PARTS[::4], HALLS[::4]):
            told = self.check(whole, part, hall)
            self.assertEqual(self.check(doubled(whole), doubled(part), fullest_hall(doubled(hall))) is None, told is None)

    def test_the_actions_stay(self):
        names = ["z", "b"]
        whole = Plan(names, [[may(0), SHUT]])
        other, row, action = spoiler(whole, free_plan(names), full_plan(names))
        self.assertEqual((other.action_list(), row, action), (names, [], 1))


class RefusalTest(unittest.TestCase):
    def test_the_bound(self):
        # whole * part * hall + part is 2,000 at most.
        for whole, part, hall in ((1999, 1, 1), (1, 1, 1999), (1, 1000, 1), (9, 200, 1), (3, 200, 3), (19, 100, 1)):
            plans = (line_plan(whole), line_plan(part), line_plan(hall, must))
            self.assertEqual(whole * part * hall + part, 2000)
            self.assertEqual(spoiler(*plans) is None, min(part, hall) <= whole)

    def test_just_above_the_bound(self):
        just = ((2000, 1, 1), (1, 1, 2000), (2, 667, 1), (28, 69, 1), (2, 69, 14), (11, 87, 2), (68, 29, 1))
        for whole, part, hall in just:
            self.assertEqual(whole * part * hall + part, 2001)
        for whole, part, hall in just + ((1, 1001, 1), (1, 2000, 1), (4, 87, 6)):
            with self.assertRaises(TooMany):
                spoiler(line_plan(whole), line_plan(part), line_plan(hall, must))

    def test_the_parts_rooms_are_added(self):
        self.assertIsNone(spoiler(line_plan(44), line_plan(44), line_plan(1, must)))
        with self.assertRaises(TooMany):
            spoiler(line_plan(40), line_plan(49), line_plan(1, must))
        self.assertIsNone(spoiler(line_plan(49), line_plan(40), line_plan(1, must)))

    def test_more_than_a_division_has(self):
        # The whole over the part itself would be refused, a spoiler is not.
        whole, part = line_plan(40), line_plan(41)
        with self.assertRaises(TooMany):
            over(whole, part)
        self.assertIsNone(spoiler(whole, part, plan_of([[SHUT]])))
        other, row, action = spoiler(whole, part, ENDLESS)
        self.assertEqual((other.told(), row, action), (line_plan(41, must).told(), [0] * 39, 0))

    def test_the_longest_row(self):
        # Rings of 31, 2 and 27 rooms: all three are at their last rooms once in 1,674 steps.
        whole = plan_of([[may((room + 1) % 31), may((room + 1) % 31)] for room in range(30)] + [[may(0), SHUT]])
        part = plan_of([[must(1), SHUT], [must(0), may(0)]])
        hall = plan_of([[must((room + 1) % 27), SHUT] for room in range(26)] + [[must(0), must(0)]])
        self.assertEqual([least(plan).many() for plan in (whole, part, hall)], [31, 2, 27])
        other, row, action = spoiler(whole, part, hall)
        self.assertEqual(([row.count(0), len(row)], action), ([1673, 1673], 1))
        self.assertTrue(fits(other, part))

    def test_the_least_plans_rooms_count(self):
        self.assertIsNone(spoiler(ring_plan(2000, 1), ring_plan(1999, 1), ring_plan(1998, 1, must)))
        for whole, part, hall in ((14, 50, 2), (39, 50, 1)):
            plans = [doubled(line_plan(whole)), doubled(line_plan(part)), fullest_hall(doubled(line_plan(hall)))]
            self.assertIsNone(spoiler(*plans))
        plans = [doubled(line_plan(40)), doubled(line_plan(50)), fullest_hall(doubled(line_plan(1)))]
        with self.assertRaises(TooMany):
            spoiler(*plans)

    def test_ahead_of_all_else(self):
        for hall in (plan_of([[SHUT]]), ENDLESS):
            # None would be told, or where no hall fits, a spoiler.
            self.assertIsNone(spoiler(line_plan(999), line_plan(2), hall))
            with self.assertRaises(TooMany):
                spoiler(line_plan(1000), line_plan(2), hall)
            self.assertIsNotNone(spoiler(line_plan(2, must), line_plan(600), hall))
            with self.assertRaises(TooMany):
                spoiler(line_plan(2, must), line_plan(667), hall)

    def test_unlike(self):
        one = [Plan(["a", "b"], [[must(0), SHUT]]) for place in range(3)]
        lists = (["a"], ["b", "a"], ["a", "c"], ["a", "b", "c"])
        for names, place in itertools.product(lists, range(3)):
            plans = list(one)
            plans[place] = Plan(names, [[must(0)] * len(names)])
            with self.assertRaises(Unlike):
                spoiler(*plans)
        with self.assertRaises(Unlike):
            spoiler(*[Plan([name], [[SHUT]]) for name in "abc"])

    def test_unlike_ahead_of_too_many(self):
        lines = [line_plan(2000), line_plan(2000), line_plan(2000, must)]
        for place in range(3):
            plans = list(lines)
            plans[place] = Plan(["b"], lines[place].told())
            with self.assertRaises(Unlike):
                spoiler(*plans)


class OwnListsTest(unittest.TestCase):
    def test_what_is_handed_in_stays_and_what_is_told_is_new(self):
        plans = (line_plan(4), plan_of([[may(0)]]), ENDLESS)
        before = [plan.told() for plan in plans]
        other, row, action = spoiler(*plans)
        told = other.told()
        row.clear()
        other.told()[0].clear()
        other.action_list().clear()
        again = spoiler(*plans)
        self.assertEqual((again[0].told(), again[1], again[2]), (told, [0, 0, 0], 0))
        self.assertEqual([plan.told() for plan in plans], before)


if __name__ == "__main__":
    unittest.main()
