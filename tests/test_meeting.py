import itertools
import unittest

from mustmay.cleaning import cleaned, is_torn_row, torn_row
from mustmay.errors import TooMany, Unlike
from mustmay.halls import fullest_hall, least_hall
from mustmay.least import least
from mustmay.meeting import meeting, met
from mustmay.pairs import within
from mustmay.plans import Draft, Plan, free_plan
from samples import NAMES, SHUT, TORN, all_halls, all_plans, doubled, fits, line_plan, may, must, plan_of, ring_plan
from samples import some_plans, told_of, unlike_pairs

ONE = plan_of([
    [must(1), may(2), SHUT],
    [may(0), must(1), may(2)],
    [SHUT, SHUT, must(0)],
    [must(3), must(0), must(1)],
])
OTHER = plan_of([
    [may(1), may(0), may(1)],
    [must(1), may(2), SHUT],
    [may(0), may(1), must(2)],
])
# All plans of one room over two actions, and all of two rooms over one.
SMALL = (all_plans(1, 2), all_plans(2, 1))
PLANS = some_plans(70, 30, 4, 2, ("must", "may", "may", "shut")) + all_plans(2, 2)[::40]
WORDS = ("must", "may", "shut")


def meeting_as_written(one, other):
    """Promise 54, word by word: the told rooms, and the pairs."""
    pairs = [(0, 0)]
    rows = []
    for room, place in pairs:
        row = []
        for action in range(len(one.action_list())):
            door, its = one.door(room, action), other.door(place, action)
            needed = door.needs() or its.needs()
            if door.allows() and its.allows():
                pair = (door.to, its.to)
                if pair not in pairs:
                    pairs.append(pair)
                row.append(("must" if needed else "may", pairs.index(pair)))
            else:
                row.append(TORN if needed else SHUT)
        rows.append(row)
    return rows, pairs


def one_door(word):
    return plan_of([[SHUT if word == "shut" else (word, 0)]])


def met_of_all(plans):
    """Plans met one behind another; nothing met with anything is nothing."""
    told = plans[0]
    for plan in plans[1:]:
        if told is not None and plan is not None:
            told = met(told, plan)
        else:
            told = None
    return told


def lines(many, other):
    """Two lines, so that the product of their rooms is known."""
    return (line_plan(many), line_plan(other))


class MeetingTest(unittest.TestCase):
    def test_each_pair_of_words(self):
        wanted = {
            ("must", "must"): must(0), ("must", "may"): must(0), ("must", "shut"): TORN,
            ("may", "may"): may(0), ("may", "shut"): SHUT, ("shut", "shut"): SHUT,
        }
        for one, other in itertools.product(WORDS, repeat=2):
            door = wanted.get((one, other)) or wanted[(other, one)]
            draft, pairs = meeting(one_door(one), one_door(other))
            self.assertEqual((draft.told(), pairs), ([[door]], [(0, 0)]))

    def test_where_the_doors_lead(self):
        for word, its in itertools.product(("must", "may"), repeat=2):
            one = plan_of([[(word, 2)], [SHUT], [SHUT]])
            other = plan_of([[(its, 1)], [may(0)]])
            draft, pairs = meeting(one, other)
            self.assertEqual(pairs, [(0, 0), (2, 1)])
            self.assertEqual(draft.told(), [[may(1) if word == its == "may" else must(1)], [SHUT]])

    def test_a_torn_door_leads_nowhere(self):
        draft, pairs = meeting(plan_of([[must(1), may(1)], [may(0), SHUT]]), plan_of([[SHUT, SHUT], [may(0), may(0)]]))
        self.assertEqual((draft.told(), pairs), ([[TORN, SHUT]], [(0, 0)]))

    def test_the_order_of_the_pairs(self):
        draft, pairs = meeting(ONE, OTHER)
        self.assertEqual(pairs, [(0, 0), (1, 1), (2, 0), (0, 1), (1, 2), (2, 2), (0, 2), (1, 0), (2, 1)])
        rows = [
            [must(1), may(2), SHUT],
            [must(3), must(4), SHUT],
            [SHUT, SHUT, must(3)],
            [must(1), may(5), SHUT],
            [may(0), must(1), must(5)],
            [SHUT, SHUT, must(6)],
            [must(7), may(8), TORN],
            [may(3), must(7), may(8)],
            [TORN, SHUT, TORN],
        ]
        self.assertEqual(draft.told(), rows)

    def test_breadth_first(self):
        one = plan_of([[may(1), may(2)], [may(3), may(4)], [may(5), may(6)]] + [[SHUT, SHUT]] * 4)
        draft, pairs = meeting(one, free_plan(["a", "b"]))
        self.assertEqual(pairs, [(room, 0) for room in range(7)])
        self.assertEqual(draft.told(), one.told())
        turned = plan_of([[may(6), may(5)]] + [[SHUT, SHUT]] * 4 + [[may(4), may(3)], [may(2), may(1)]])
        self.assertEqual(meeting(turned, free_plan(["a", "b"]))[1], [(room, 0) for room in (0, 6, 5, 2, 1, 4, 3)])
        self.assertEqual(meeting(free_plan(["a", "b"]), turned)[1], [(0, room) for room in (0, 6, 5, 2, 1, 4, 3)])

    def test_each_pair_once(self):
        draft, pairs = meeting(ring_plan(3, 2), ring_plan(4, 2, must))
        self.assertEqual(len(pairs), 12)
        self.assertEqual(len(set(pairs)), 12)
        self.assertEqual(draft.many(), 12)

    def test_pairs_that_are_not_come_to(self):
        one = plan_of([[may(0)], [must(1)]])
        draft, pairs = meeting(one, one)
        self.assertEqual((draft.told(), pairs), ([[may(0)]], [(0, 0)]))
        draft, pairs = meeting(line_plan(5), line_plan(3))
        self.assertEqual(pairs, [(0, 0), (1, 1), (2, 2)])
        self.assertEqual(draft.told(), [[may(1)], [may(2)], [SHUT]])

    def test_rooms_that_contradict_themselves_are_gone_through(self):
        # The first pair has a torn door; what its other door leads to is told all the same.
        draft, pairs = meeting(plan_of([[must(0), may(1)], [must(0), SHUT]]), plan_of([[SHUT, may(1)], [may(1), SHUT]]))
        self.assertEqual(pairs, [(0, 0), (1, 1), (0, 1)])
        self.assertEqual(draft.told(), [[TORN, may(1)], [must(2), SHUT], [must(2), SHUT]])

    def test_as_the_document_says(self):
        for plans in SMALL + (PLANS, [ONE, OTHER], some_plans(71, 12, 7, 3)):
            for one, other in itertools.product(plans, repeat=2):
                draft, pairs = meeting(one, other)
                self.assertEqual((draft.told(), pairs), meeting_as_written(one, other))

    def test_both_orders(self):
        for one, other in itertools.product(PLANS, repeat=2):
            draft, pairs = meeting(one, other)
            turned, swapped = meeting(other, one)
            self.assertEqual(draft.told(), turned.told())
            self.assertEqual(swapped, [(place, room) for room, place in pairs])

    def test_kinds(self):
        told = meeting(ONE, OTHER)
        self.assertIs(type(told), tuple)
        self.assertIs(type(told[0]), Draft)
        self.assertIs(type(told[1]), list)
        self.assertEqual(told[0].action_list(), ["a", "b", "c"])
        for pair in told[1]:
            self.assertIs(type(pair), tuple)
            self.assertEqual([type(room) for room in pair], [int, int])

    def test_the_actions_stay(self):
        plan = Plan(["z", "b"], [[may(0), SHUT]])
        self.assertEqual(meeting(plan, plan)[0].action_list(), ["z", "b"])
        self.assertEqual(met(plan, plan).action_list(), ["z", "b"])

    def test_too_many(self):
        for many, other in ((601, 1), (301, 2), (25, 25), (2000, 1), (2000, 2000)):
            for one, two in (lines(many, other), lines(other, many)):
                with self.assertRaises(TooMany):
                    meeting(one, two)

    def test_just_not_too_many(self):
        for many, other in ((600, 1), (300, 2), (24, 25), (20, 30), (599, 1)):
            for one, two in (lines(many, other), lines(other, many)):
                self.assertEqual(len(meeting(one, two)[1]), min(many, other))
        draft, pairs = meeting(ring_plan(24, 1), ring_plan(25, 1, must))
        self.assertEqual((draft.many(), len(pairs)), (600, 600))
        self.assertEqual(draft.told(), ring_plan(600, 1, must).told())

    def test_the_plans_own_rooms_count(self):
        # Alike to plans of one room, and most of the second one is not come to.
        with self.assertRaises(TooMany):
            meeting(ring_plan(601, 1), free_plan(["a"]))
        unused = plan_of([[may(0)]] * 601)
        with self.assertRaises(TooMany):
            meeting(unused, free_plan(["a"]))
        self.assertEqual(meeting(plan_of([[may(0)]] * 600), free_plan(["a"]))[1], [(0, 0)])

    def test_unlike(self):
        for one, other in unlike_pairs():
            with self.assertRaises(Unlike):
                meeting(one, other)

    def test_unlike_ahead_of_too_many(self):
        line = line_plan(601)
        other = Plan(["b"], line.told())
        for pair in ((line, other), (other, line)):
            with self.assertRaises(Unlike):
                meeting(*pair)


class MetTest(unittest.TestCase):
    def test_each_pair_of_words(self):
        wanted = {
            ("must", "must"): [[must(0)]], ("must", "may"): [[must(0)]], ("must", "shut"): None,
            ("may", "may"): [[may(0)]], ("may", "shut"): [[SHUT]], ("shut", "shut"): [[SHUT]],
        }
        for one, other in itertools.product(WORDS, repeat=2):
            told = wanted[(one, other)] if (one, other) in wanted else wanted[(other, one)]
            self.assertEqual(told_of(met(one_door(one), one_door(other))), told)

    def test_none(self):
        self.assertIsNone(met(plan_of([[must(0)]]), plan_of([[SHUT]])))
        # The contradiction comes behind two must doors.
        self.assertIsNone(met(line_plan(4, must), line_plan(3, must)))
        self.assertIsNone(met(line_plan(4, must), line_plan(3, may)))
        self.assertIsNone(met(line_plan(4, may), line_plan(3, must, must(0))))

    def test_contradictions_behind_may_doors(self):
        one = plan_of([[may(1), may(0)], [must(0), SHUT]])
        other = plan_of([[may(1), must(0)], [SHUT, SHUT]])
        self.assertEqual(met(one, other).told(), [[SHUT, must(0)]])
        self.assertEqual(met(line_plan(4, may), line_plan(3, must, SHUT)).told(), line_plan(3, must).told())
        self.assertEqual(met(line_plan(4, may, must(3)), line_plan(3, may)).told(), line_plan(3).told())

    def test_it_is_the_least_plan(self):
        told = met(ring_plan(3, 2), ring_plan(4, 2, must))
        self.assertIs(type(told), Plan)
        self.assertEqual(told.told(), [[must(0), must(0)]])

    def test_with_itself_and_with_the_free_plan(self):
        for plan in SMALL[0] + SMALL[1] + PLANS + [ONE, OTHER]:
            free = free_plan(plan.action_list())
            for other in (plan, free, doubled(plan), doubled(free)):
                self.assertEqual(met(plan, other).told(), least(plan).told())
                self.assertEqual(met(other, plan).told(), least(plan).told())

    def test_it_is_the_cleaned_meeting(self):
        for one, other in itertools.product(PLANS, repeat=2):
            draft = meeting(least(one), least(other))[0]
            self.assertEqual(told_of(met(one, other)), told_of(cleaned(draft)))
            self.assertEqual(told_of(met(one, other)), told_of(cleaned(meeting(one, other)[0])))

    def test_two_in_whatever_order(self):
        nothing = 0
        for plans in SMALL + (PLANS,):
            for one, other in itertools.combinations(plans, 2):
                told = told_of(met(one, other))
                self.assertEqual(told, told_of(met(other, one)))
                nothing += told is None
        self.assertGreater(nothing, 50)

    def test_three_in_whatever_order(self):
        some = 0
        for plans in (SMALL[0], SMALL[1][::2], PLANS[::5]):
            for three in itertools.combinations(plans, 3):
                told = told_of(met_of_all(three))
                some += told is not None
                for order in itertools.permutations(three):
                    self.assertEqual(told_of(met_of_all(order)), told)
                    self.assertEqual(told_of(met_of_all([order[0], met_of_all(order[1:])])), told)
        self.assertGreater(some, 100)

    def test_alike_plans_give_the_same(self):
        for one, other in itertools.product(PLANS[:25], repeat=2):
            told = told_of(met(one, other))
            for first in (one, least(one), doubled(one)):
                for second in (least(other), doubled(other)):
                    self.assertEqual(told_of(met(first, second)), told)

    def check_halls(self, one, other, halls):
        plan = met(one, other)
        for hall in halls:
            both = fits(hall, one) and fits(hall, other)
            self.assertEqual(plan is not None and fits(hall, plan), both, (one.told(), other.told(), hall.told()))
        if plan is None:
            self.check_torn(one, other)
        else:
            for hall in (least_hall(plan), fullest_hall(plan)):
                self.assertTrue(fits(hall, one) and fits(hall, other))
            self.assertTrue(within(plan, one) and within(plan, other))

    def check_torn(self, one, other):
        # Where there is none, a ranked row tells of room 0.
        draft = meeting(least(one), least(other))[0]
        rows = torn_row(draft)
        self.assertTrue(is_torn_row(draft, rows))
        self.assertIn(0, [row[0] for row in rows])

    def test_just_the_halls_that_fit_both(self):
        halls = all_halls(1, 1) + all_halls(2, 1) + all_halls(3, 1)
        for one, other in itertools.product(SMALL[1], repeat=2):
            self.check_halls(one, other, halls)
        halls = all_halls(1, 2) + all_halls(2, 2)
        for plans in (SMALL[0], PLANS):
            for one, other in itertools.product(plans, repeat=2):
                self.check_halls(one, other, halls)

    def test_a_plan_is_within_it_just_where_it_is_within_both(self):
        for one, other in itertools.combinations(PLANS[::3], 2):
            plan = met(one, other)
            for third in PLANS[::3]:
                both = within(third, one) and within(third, other)
                self.assertEqual(plan is not None and within(third, plan), both)

    def test_too_many(self):
        for many, other in ((601, 1), (301, 2), (25, 25), (2000, 1), (2000, 2000)):
            for one, two in (lines(many, other), lines(other, many)):
                with self.assertRaises(TooMany):
                    met(one, two)

    def test_just_not_too_many(self):
        for many, other in ((600, 1), (300, 2), (24, 25), (599, 1)):
            for one, two in (lines(many, other), lines(other, many)):
                self.assertEqual(met(one, two).told(), line_plan(min(many, other)).told())

    def test_the_least_plans_rooms_count(self):
        self.assertEqual(met(ring_plan(2000, 1), ring_plan(1999, 1, must)).told(), [[must(0)]])
        self.assertEqual(met(ring_plan(2000, 1), line_plan(600)).told(), line_plan(600).told())
        unused = plan_of(line_plan(300).told() + [[must(0)]] * 1700)
        self.assertEqual(met(unused, line_plan(2)).told(), line_plan(2).told())
        with self.assertRaises(TooMany):
            met(unused, line_plan(3))
        with self.assertRaises(TooMany):
            met(ring_plan(2000, 1), line_plan(601))
        self.assertEqual(met(doubled(line_plan(24)), doubled(line_plan(25))).told(), line_plan(24).told())
        with self.assertRaises(TooMany):
            met(doubled(line_plan(25)), doubled(line_plan(25)))

    def test_too_many_ahead_of_none(self):
        shut = plan_of([[SHUT]])
        self.assertIsNone(met(line_plan(600, must), shut))
        for pair in ((line_plan(601, must), shut), (shut, line_plan(601, must))):
            with self.assertRaises(TooMany):
                met(*pair)

    def test_unlike(self):
        for one, other in unlike_pairs():
            with self.assertRaises(Unlike):
                met(one, other)

    def test_unlike_ahead_of_too_many(self):
        line = line_plan(601)
        other = Plan(["b"], line.told())
        for pair in ((line, other), (other, line)):
            with self.assertRaises(Unlike):
                met(*pair)


class OwnListsTest(unittest.TestCase):
    def test_what_is_handed_in_stays(self):
        before = (ONE.told(), OTHER.told())
        meeting(ONE, OTHER)
        met(ONE, OTHER)
        self.assertEqual((ONE.told(), OTHER.told()), before)

    def test_told_lists_are_the_askers_own(self):
        draft, pairs = meeting(ONE, OTHER)
        told = draft.told()
        kept = list(pairs)
        pairs.reverse()
        pairs.clear()
        self.assertEqual(draft.told(), told)
        self.assertEqual(meeting(ONE, OTHER)[1], kept)
        draft.told()[0].clear()
        self.assertEqual(meeting(ONE, OTHER)[0].told(), told)

    def test_the_actions_handed_in_may_be_changed(self):
        names = NAMES[:1]
        plan = Plan(names, [[may(0)]])
        draft = meeting(plan, plan)[0]
        plan_met = met(plan, plan)
        names[0] = "x"
        draft.action_list().clear()
        self.assertEqual((draft.action_list(), plan_met.action_list()), (["a"], ["a"]))


if __name__ == "__main__":
    unittest.main()
