import itertools
import unittest

from mustmay.errors import TooMany, Unlike
from mustmay.halls import fullest_hall, least_hall
from mustmay.least import least
from mustmay.pairs import within
from mustmay.plans import Plan, free_plan, word_after
from mustmay.sides import beside
from samples import SHUT, all_halls, all_plans, doubled, fits, gone_rows, line_plan, may, must, plan_of, ring_plan
from samples import some_plans, unlike_pairs, words_at

ONE = plan_of([
    [must(1), may(2), must(0)],
    [may(0), must(1), SHUT],
    [SHUT, SHUT, must(0)],
    [must(3), must(0), must(1)],
])
OTHER = plan_of([
    [must(1), must(0), may(0)],
    [SHUT, must(0), must(1)],
])
SMALL = (all_plans(1, 2), all_plans(2, 1))
PLANS = some_plans(80, 30, 4, 2, ("must", "must", "may", "shut")) + all_plans(2, 2)[::40]
WORDS = ("must", "may", "shut")


def word_beside(word, its):
    """Promise 60: must where it is must in both, shut where it is shut in one of them, else may."""
    if word == its == "must":
        return "must"
    return "shut" if "shut" in (word, its) else "may"


def one_door(word):
    return plan_of([[SHUT if word == "shut" else (word, 0)]])


class BesideTest(unittest.TestCase):
    def test_each_pair_of_words(self):
        wanted = {
            ("must", "must"): must(0), ("must", "may"): may(0), ("must", "shut"): SHUT,
            ("may", "may"): may(0), ("may", "shut"): SHUT, ("shut", "shut"): SHUT,
        }
        for one, other in itertools.product(WORDS, repeat=2):
            door = wanted.get((one, other)) or wanted[(other, one)]
            self.assertEqual(beside(one_door(one), one_door(other)).told(), [[door]])

    def test_where_the_doors_lead(self):
        # Behind a the one has a must door for b, the other one a may door.
        one = plan_of([[must(2), SHUT], [SHUT, SHUT], [SHUT, must(0)]])
        other = plan_of([[must(1), must(1)], [may(0), may(0)]])
        self.assertEqual(beside(one, other).told(), [[must(1), SHUT], [SHUT, may(0)]])

    def test_a_larger_one(self):
        rows = [
            [must(1), may(2), may(0)],
            [SHUT, must(3), SHUT],
            [SHUT, SHUT, may(0)],
            [may(4), must(3), SHUT],
            [SHUT, may(2), must(4)],
        ]
        told = beside(ONE, OTHER)
        self.assertIs(type(told), Plan)
        self.assertEqual(told.action_list(), ["a", "b", "c"])
        self.assertEqual(told.told(), rows)

    def test_told_as_a_least_plan(self):
        self.assertEqual(beside(ring_plan(3, 2), ring_plan(4, 2, must)).told(), [[may(0), may(0)]])
        # Pairs of rooms that are not alike may be alike: neither goes on.
        one = plan_of([[may(1), may(2)], [may(0), SHUT], [SHUT, may(0)]])
        other = plan_of([[may(1), may(2)], [SHUT, may(0)], [may(0), SHUT]])
        self.assertEqual(beside(one, other).told(), [[may(1), may(1)], [SHUT, SHUT]])
        for one, other in itertools.product(PLANS, repeat=2):
            told = beside(one, other)
            self.assertEqual(least(told).told(), told.told())

    def check_rows(self, one, other, longest):
        told = beside(one, other)
        for row, room in gone_rows(one, longest):
            place = other.after(row)
            self.assertEqual(told.after(row) is None, place is None)
            if place is not None:
                words = [word_beside(*pair) for pair in zip(words_at(one, room), words_at(other, place))]
                self.assertEqual([word_after(told, row, action) for action in range(len(words))], words)
        for row, room in gone_rows(told, longest):
            self.assertIsNotNone(one.after(row))
            self.assertIsNotNone(other.after(row))

    def test_behind_each_row(self):
        for one, other in itertools.product(SMALL[0], repeat=2):
            self.check_rows(one, other, 2)
        for one, other in itertools.product(SMALL[1], repeat=2):
            self.check_rows(one, other, 6)
        for one, other in itertools.product(PLANS[::2], repeat=2):
            self.check_rows(one, other, 5)
        self.check_rows(ONE, OTHER, 6)

    def test_both_orders(self):
        for plans in SMALL + (PLANS, some_plans(81, 12, 7, 3)):
            for one, other in itertools.combinations(plans, 2):
                self.assertEqual(beside(one, other).told(), beside(other, one).told())

    def test_three_in_whatever_order(self):
        for plans in (SMALL[0], SMALL[1][::2], PLANS[::5]):
            for three in itertools.combinations(plans, 3):
                told = beside(three[0], beside(three[1], three[2])).told()
                for one, two, third in itertools.permutations(three):
                    self.assertEqual(beside(beside(one, two), third).told(), told)
                    self.assertEqual(beside(third, beside(one, two)).told(), told)

    def test_with_itself(self):
        for plan in SMALL[0] + SMALL[1] + PLANS + [ONE, OTHER]:
            self.assertEqual(beside(plan, plan).told(), least(plan).told())
            self.assertEqual(beside(plan, doubled(plan)).told(), least(plan).told())

    def test_with_the_free_plan_and_the_full_hall(self):
        for plan in SMALL[0] + SMALL[1] + PLANS + [ONE, OTHER]:
            many = len(plan.action_list())
            full = fullest_hall(free_plan(plan.action_list()))
            self.assertEqual(beside(plan, full).told(), least(plan).told())
            rows = [[(word.replace("must", "may"), to) for word, to in row] for row in plan.told()]
            freed = least(plan_of(rows)).told()
            self.assertEqual(beside(free_plan(plan.action_list()), plan).told(), freed)
            self.assertEqual(beside(plan, plan_of([[SHUT] * many])).told(), [[SHUT] * many])

    def test_alike_plans_give_the_same(self):
        for one, other in itertools.product(PLANS[:25], repeat=2):
            told = beside(one, other).told()
            for first in (one, least(one), doubled(one)):
                for second in (least(other), doubled(other)):
                    self.assertEqual(beside(first, second).told(), told)

    def test_halls_side_by_side_are_a_hall(self):
        for plans in (all_halls(1, 2) + all_halls(2, 2)[::3], all_halls(3, 1)):
            for one, other in itertools.product(plans, repeat=2):
                told = beside(one, other)
                self.assertIs(told.is_finished(), True)
        for one, other in itertools.product(PLANS, repeat=2):
            self.assertIs(beside(fullest_hall(one), least_hall(other)).is_finished(), True)

    def check_fits(self, one, other, halls):
        told = beside(one, other)
        first = [hall for hall in halls if fits(hall, one)] + [least_hall(one), fullest_hall(one)]
        second = [hall for hall in halls if fits(hall, other)] + [least_hall(other), fullest_hall(other)]
        for hall, its in itertools.product(first, second):
            both = beside(hall, its)
            self.assertTrue(fits(both, told), (one.told(), other.told(), hall.told(), its.told()))

    def test_halls_that_fit_fit_side_by_side(self):
        halls = all_halls(1, 1) + all_halls(2, 1)
        for one, other in itertools.product(SMALL[1], repeat=2):
            self.check_fits(one, other, halls)
        halls = all_halls(1, 2) + all_halls(2, 2)[::4]
        for plans in (SMALL[0][::2], PLANS[::6]):
            for one, other in itertools.product(plans, repeat=2):
                self.check_fits(one, other, halls)

    def test_plans_within_plans_stay_so_side_by_side(self):
        for one, other, third in itertools.product(PLANS[::4], repeat=3):
            if within(one, other):
                self.assertTrue(within(beside(one, third), beside(other, third)))


class RefusalTest(unittest.TestCase):
    def too_many(self, one, other):
        for pair in ((one, other), (other, one)):
            with self.assertRaises(TooMany):
                beside(*pair)

    def test_too_many(self):
        for many, other in ((601, 1), (301, 2), (25, 25), (2000, 1), (2000, 2000)):
            self.too_many(line_plan(many), line_plan(other))

    def test_just_not_too_many(self):
        for many, other in ((600, 1), (300, 2), (24, 25), (20, 30), (599, 1)):
            self.assertEqual(beside(line_plan(many), line_plan(other)).told(), line_plan(min(many, other)).told())
            self.assertEqual(beside(line_plan(other), line_plan(many)).told(), line_plan(min(many, other)).told())

    def test_six_hundred_pairs(self):
        # Two rings, each with one must door less: they meet at the same time once in 600 steps.
        one = plan_of([[must((room + 1) % 24), must(0)] for room in range(23)] + [[must(0), SHUT]])
        other = plan_of([[must((room + 1) % 25), may(0)] for room in range(24)] + [[may(0), SHUT]])
        self.assertEqual(beside(one, other).many(), 600)

    def test_the_least_plans_rooms_count(self):
        self.assertEqual(beside(ring_plan(2000, 1, must), ring_plan(1999, 1, must)).told(), [[must(0)]])
        self.assertEqual(beside(ring_plan(2000, 1), line_plan(600, must)).told(), line_plan(600).told())
        self.too_many(ring_plan(2000, 1), line_plan(601))
        unused = plan_of(line_plan(300).told() + [[must(0)]] * 1700)
        self.assertEqual(beside(unused, line_plan(2)).told(), line_plan(2).told())
        self.too_many(unused, line_plan(3))
        self.assertEqual(beside(doubled(line_plan(24)), doubled(line_plan(25))).told(), line_plan(24).told())
        self.too_many(doubled(line_plan(25)), doubled(line_plan(25)))

    def test_pairs_that_are_not_come_to_count(self):
        self.too_many(line_plan(601), plan_of([[SHUT]]))
        self.assertEqual(beside(line_plan(600), plan_of([[SHUT]])).told(), [[SHUT]])

    def test_unlike(self):
        for one, other in unlike_pairs():
            with self.assertRaises(Unlike):
                beside(one, other)

    def test_unlike_ahead_of_too_many(self):
        line = line_plan(601)
        other = Plan(["b"], line.told())
        for pair in ((line, other), (other, line)):
            with self.assertRaises(Unlike):
                beside(*pair)


class OwnListsTest(unittest.TestCase):
    def test_what_is_handed_in_stays(self):
        before = (ONE.told(), OTHER.told())
        told = beside(ONE, OTHER)
        kept = told.told()
        told.told()[0].clear()
        told.action_list().clear()
        self.assertEqual(told.told(), kept)
        self.assertEqual(told.action_list(), ["a", "b", "c"])
        self.assertEqual((ONE.told(), OTHER.told()), before)


if __name__ == "__main__":
    unittest.main()
