import itertools
import unittest

from mustmay.cleaning import cleaned
from mustmay.division import division, over
from mustmay.errors import TooMany, Unlike
from mustmay.halls import fullest_hall, least_hall
from mustmay.least import least
from mustmay.pairs import within
from mustmay.plans import Draft, Plan, free_plan
from mustmay.sides import beside
from samples import NAMES, SHUT, TORN, all_halls, all_plans, doubled, fits, full_plan, line_halls, line_plan, may, must
from samples import plan_of, ring_plan, some_plans, told_of, unlike_pairs

WHOLE = plan_of([
    [must(1), may(2), SHUT],
    [may(0), SHUT, must(1)],
    [must(0), may(2), may(1)],
    [must(3), must(0), must(1)],
])
PART = plan_of([
    [must(1), may(0), SHUT],
    [may(0), must(1), must(1)],
])
SMALL = (all_plans(1, 2), all_plans(2, 1))
PLANS = some_plans(100, 30, 4, 2, ("must", "may", "may", "shut")) + all_plans(2, 2)[::40]
PARTS = some_plans(101, 30, 4, 2, ("must", "must", "may", "shut")) + all_plans(2, 2)[7::40]
WORDS = ("must", "may", "shut")
FREE = "free"
# Promise 61: the word that follows from the whole's and the part's, and the way.
DIVIDED = {
    ("must", "must"): ("must", "pair"),
    ("must", "may"): ("torn", None),
    ("must", "shut"): ("torn", None),
    ("may", "must"): ("may", "pair"),
    ("may", "may"): ("may", "pair"),
    ("may", "shut"): ("may", FREE),
    ("shut", "must"): ("shut", None),
    ("shut", "may"): ("shut", None),
    ("shut", "shut"): ("may", FREE),
}


def division_as_written(whole, part):
    """Promise 61, word by word: the told rooms, and the pairs with None for the free room."""
    spots = [(0, 0)]
    rows = []
    for spot in spots:
        row = []
        for action in range(len(whole.action_list())):
            word, way, to = "may", FREE, None
            if spot is not None:
                door, its = whole.door(spot[0], action), part.door(spot[1], action)
                word, way = DIVIDED[(door.word(), its.word())]
                to = (door.to, its.to) if way == "pair" else None
            if way is None:
                row.append((word, None))
                continue
            if to not in spots:
                spots.append(to)
            row.append((word, spots.index(to)))
        rows.append(row)
    return rows, spots


def door_to(word, to):
    return SHUT if word == "shut" else (word, to)


class DivisionTest(unittest.TestCase):
    def test_each_pair_of_words(self):
        for word, its in itertools.product(WORDS, repeat=2):
            whole = plan_of([[door_to(word, 2)], [must(0)], [SHUT]])
            part = plan_of([[door_to(its, 1)], [may(0)]])
            wanted, way = DIVIDED[(word, its)]
            draft, pairs = division(whole, part)
            if way == "pair":
                # In (2, 1) the whole has its door shut, and the part has a may door.
                self.assertEqual((draft.told(), pairs), ([[(wanted, 1)], [SHUT]], [(0, 0), (2, 1)]))
            elif way == FREE:
                self.assertEqual((draft.told(), pairs), ([[may(1)], [may(1)]], [(0, 0), None]))
            else:
                self.assertEqual((draft.told(), pairs), ([[(wanted, None)]], [(0, 0)]))

    def test_the_free_room(self):
        whole = plan_of([[may(1), may(0), SHUT], [SHUT, may(0), must(1)]])
        part = plan_of([[may(0), SHUT, SHUT]])
        draft, pairs = division(whole, part)
        self.assertEqual(pairs, [(0, 0), (1, 0), None])
        self.assertEqual(draft.told(), [[may(1), may(2), may(2)], [SHUT, may(2), TORN], [may(2)] * 3])

    def test_the_place_of_the_free_room(self):
        whole = plan_of([[may(1), may(2)], [may(2), may(0)], [may(2), may(2)]])
        first = plan_of([[SHUT, may(0)]])
        self.assertEqual(division(whole, first)[1], [(0, 0), None, (2, 0)])
        second = plan_of([[may(1), SHUT], [may(1), may(1)]])
        self.assertEqual(division(whole, second)[1], [(0, 0), (1, 1), None, (2, 1), (0, 1)])
        last = plan_of([[may(1), may(1)], [may(2), may(2)], [SHUT, may(2)]])
        self.assertEqual(division(whole, last)[1], [(0, 0), (1, 1), (2, 1), (2, 2), (0, 2), None])

    def test_the_free_room_is_not_come_to(self):
        for part in (free_plan(["a", "b"]), full_plan(["a", "b"]), ring_plan(3, 2)):
            for whole in SMALL[0] + PLANS:
                self.assertNotIn(None, division(whole, part)[1])
        # The whole shuts the way to where the part is shut.
        draft, pairs = division(plan_of([[SHUT]]), plan_of([[may(1)], [SHUT]]))
        self.assertEqual((draft.told(), pairs), ([[SHUT]], [(0, 0)]))
        # A torn door leads nowhere.
        draft, pairs = division(plan_of([[must(0)]]), plan_of([[SHUT]]))
        self.assertEqual((draft.told(), pairs), ([[TORN]], [(0, 0)]))

    def test_the_free_room_is_one(self):
        draft, pairs = division(ring_plan(5, 3), plan_of([[may(0), SHUT, SHUT]]))
        self.assertEqual(pairs.count(None), 1)
        self.assertEqual(pairs[1:3], [(1, 0), None])
        self.assertEqual(draft.told()[2], [may(2)] * 3)

    def test_the_order_of_the_pairs(self):
        draft, pairs = division(WHOLE, PART)
        self.assertEqual(pairs, [(0, 0), (1, 1), (2, 0), None, (0, 1), (2, 1)])
        self.assertEqual(draft.told(), [
            [must(1), may(2), may(3)],
            [may(0), SHUT, must(1)],
            [must(4), may(2), may(3)],
            [may(3), may(3), may(3)],
            [TORN, may(5), SHUT],
            [TORN, may(5), may(1)],
        ])

    def test_as_the_document_says(self):
        for wholes, parts in ((SMALL[0], SMALL[0]), (SMALL[1], SMALL[1]), (PLANS, PARTS), ([WHOLE], [PART, WHOLE])):
            for whole, part in itertools.product(wholes, parts):
                draft, pairs = division(whole, part)
                self.assertEqual((draft.told(), pairs), division_as_written(whole, part))
        for whole, part in itertools.product(some_plans(102, 12, 7, 3), repeat=2):
            draft, pairs = division(whole, part)
            self.assertEqual((draft.told(), pairs), division_as_written(whole, part))

    def test_kinds(self):
        told = division(WHOLE, PART)
        self.assertIs(type(told), tuple)
        self.assertEqual(len(told), 2)
        self.assertIs(type(told[0]), Draft)
        self.assertIs(type(told[1]), list)
        self.assertEqual(told[0].action_list(), ["a", "b", "c"])
        for pair in told[1]:
            if pair is not None:
                self.assertIs(type(pair), tuple)
                self.assertEqual([type(room) for room in pair], [int, int])

    def test_too_many(self):
        for many, other in ((601, 1), (301, 2), (25, 25), (2000, 1), (2000, 2000)):
            for whole, part in ((many, other), (other, many)):
                with self.assertRaises(TooMany):
                    division(line_plan(whole), line_plan(part))

    def test_just_not_too_many(self):
        for many, other in ((600, 1), (300, 2), (25, 24), (30, 20), (599, 1)):
            pairs = [(room, room) for room in range(other)]
            self.assertEqual(division(line_plan(many), line_plan(other))[1], pairs + [None])
            # The whole is shut at its end, and the part is not.
            self.assertEqual(division(line_plan(other), line_plan(many))[1], pairs)
        draft, pairs = division(ring_plan(24, 1), ring_plan(25, 1))
        self.assertEqual((draft.told(), len(pairs)), (ring_plan(600, 1).told(), 600))

    def test_six_hundred_pairs_and_the_free_room(self):
        whole = plan_of([[may((room + 1) % 24), may(0)] for room in range(24)])
        part = plan_of([[may((room + 1) % 25), SHUT] for room in range(25)])
        draft, pairs = division(whole, part)
        self.assertEqual((draft.many(), pairs[:3], len(set(pairs))), (601, [(0, 0), (1, 1), None], 601))

    def test_the_plans_own_rooms_count(self):
        for pair in ((ring_plan(601, 1), free_plan(["a"])), (plan_of([[may(0)]] * 601), free_plan(["a"]))):
            for whole, part in (pair, pair[::-1]):
                with self.assertRaises(TooMany):
                    division(whole, part)
        self.assertEqual(division(plan_of([[may(0)]] * 600), free_plan(["a"]))[1], [(0, 0)])

    def test_unlike(self):
        for one, other in unlike_pairs():
            for work in (division, over):
                with self.assertRaises(Unlike):
                    work(one, other)

    def test_unlike_ahead_of_too_many(self):
        line = line_plan(601)
        other = Plan(["b"], line.told())
        for pair in ((line, other), (other, line)):
            for work in (division, over):
                with self.assertRaises(Unlike):
                    work(*pair)


class OverTest(unittest.TestCase):
    def test_each_pair_of_words(self):
        wanted = {
            ("must", "must"): [[must(0)]], ("must", "may"): None, ("must", "shut"): None,
            ("may", "must"): [[may(0)]], ("may", "may"): [[may(0)]], ("may", "shut"): [[may(0)]],
            ("shut", "must"): [[SHUT]], ("shut", "may"): [[SHUT]], ("shut", "shut"): [[may(0)]],
        }
        for word, its in itertools.product(WORDS, repeat=2):
            told = over(plan_of([[door_to(word, 0)]]), plan_of([[door_to(its, 0)]]))
            self.assertEqual(told_of(told), wanted[(word, its)])

    def test_none(self):
        # What the whole needs, the part must do.
        self.assertIsNone(over(plan_of([[must(0)]]), plan_of([[may(0)]])))
        # The contradiction comes behind two must doors.
        self.assertIsNone(over(line_plan(4, must), line_plan(3, must)))
        self.assertIsNone(over(line_plan(4, must), plan_of([[must(1)], [must(2)], [may(0)]])))

    def test_contradictions_behind_may_doors(self):
        whole = plan_of([[may(1), may(0)], [must(0), SHUT]])
        part = plan_of([[may(1), must(0)], [SHUT, SHUT]])
        self.assertEqual(over(whole, part).told(), [[SHUT, may(0)]])
        whole = plan_of([[may(1)], [must(2)], [must(1)]])
        self.assertEqual(over(whole, plan_of([[must(1)], [must(2)], [may(1)]])).told(), [[SHUT]])

    def test_told_as_a_least_plan(self):
        # What is behind an action that the part never does is free, like the free room.
        self.assertEqual(over(plan_of([[may(0), SHUT]]), plan_of([[may(0), SHUT]])).told(), [[may(0), may(0)]])
        for whole, part in itertools.product(PLANS, PARTS):
            told = over(whole, part)
            if told is not None:
                self.assertIs(type(told), Plan)
                self.assertEqual(least(told).told(), told.told())
                self.assertEqual(told.action_list(), whole.action_list())

    def test_it_is_the_cleaned_division(self):
        for whole, part in itertools.product(PLANS, PARTS):
            told = told_of(over(whole, part))
            self.assertEqual(told, told_of(cleaned(division(least(whole), least(part))[0])))
            self.assertEqual(told, told_of(cleaned(division(whole, part)[0])))

    def test_over_the_plan_in_which_all_must_be_done(self):
        for whole in SMALL[0] + SMALL[1] + PLANS + [WHOLE, PART]:
            full = full_plan(whole.action_list())
            for part in (full, doubled(full)):
                self.assertEqual(over(whole, part).told(), least(whole).told())

    def test_over_the_free_plan(self):
        some = 0
        for whole in SMALL[0] + SMALL[1] + PLANS + [WHOLE, PART]:
            free = free_plan(whole.action_list())
            told = told_of(over(whole, free))
            rows = [[TORN if word == "must" else (word, to) for word, to in row] for row in whole.told()]
            self.assertEqual(told, told_of(cleaned(Draft(whole.action_list(), rows))))
            self.assertEqual(told_of(over(whole, doubled(free))), told)
            some += told is not None
        self.assertGreater(some, 20)

    def test_the_free_plan_over_any_part(self):
        for part in SMALL[0] + SMALL[1] + PARTS + [WHOLE, PART]:
            free = free_plan(part.action_list())
            self.assertEqual(over(free, part).told(), free.told())

    def test_over_itself(self):
        # A plan over itself is there just where the plan, side by side with what must all be done, is within it.
        for plan in SMALL[0] + SMALL[1] + PLANS:
            told = over(plan, plan)
            self.assertIsNotNone(told)
            self.assertTrue(within(full_plan(plan.action_list()), told))

    def test_alike_wholes_and_parts_give_the_same(self):
        nothing = 0
        for whole, part in itertools.product(PLANS[:25], PARTS[:25]):
            told = told_of(over(whole, part))
            nothing += told is None
            for first in (whole, least(whole), doubled(whole)):
                for second in (least(part), doubled(part)):
                    self.assertEqual(told_of(over(first, second)), told)
        self.assertGreater(nothing, 20)

    def test_too_many(self):
        for many, other in ((601, 1), (301, 2), (25, 25), (2000, 1), (2000, 2000)):
            for whole, part in ((many, other), (other, many)):
                with self.assertRaises(TooMany):
                    over(line_plan(whole), line_plan(part))

    def test_just_not_too_many(self):
        for many, other in ((600, 1), (300, 2), (25, 24), (30, 20), (599, 1)):
            self.assertEqual(over(line_plan(many), line_plan(other)).told(), [[may(0)]])
            self.assertEqual(over(line_plan(other), line_plan(many)).told(), line_plan(other).told())

    def test_the_least_plans_rooms_count(self):
        self.assertEqual(over(ring_plan(2000, 1), ring_plan(1999, 1, must)).told(), [[may(0)]])
        self.assertEqual(over(line_plan(600), ring_plan(2000, 1)).told(), line_plan(600).told())
        with self.assertRaises(TooMany):
            over(line_plan(601), ring_plan(2000, 1))
        with self.assertRaises(TooMany):
            over(ring_plan(2000, 1), line_plan(601))
        unused = plan_of(line_plan(300).told() + [[must(0)]] * 1700)
        self.assertEqual(over(line_plan(2), unused).told(), line_plan(2).told())
        with self.assertRaises(TooMany):
            over(line_plan(3), unused)
        self.assertEqual(over(doubled(line_plan(24)), doubled(line_plan(25))).told(), line_plan(24).told())
        for whole, part in ((25, 25), (301, 2), (2, 301)):
            with self.assertRaises(TooMany):
                over(doubled(line_plan(whole)), doubled(line_plan(part)))

    def test_too_many_ahead_of_none(self):
        shut = plan_of([[SHUT]])
        self.assertIsNone(over(line_plan(600, must), shut))
        with self.assertRaises(TooMany):
            over(line_plan(601, must), shut)


class WhatIsWithinTest(unittest.TestCase):
    """Promise 63."""

    def check_plans(self, whole, part, plans):
        told = over(whole, part)
        for plan in plans:
            wanted = within(beside(part, plan), whole)
            self.assertEqual(told is not None and within(plan, told), wanted, (whole.told(), part.told(), plan.told()))
        return told

    def test_plans_of_one_room(self):
        for whole, part in itertools.product(SMALL[0], repeat=2):
            self.check_plans(whole, part, SMALL[0])

    def test_plans_of_two_rooms(self):
        nothing = 0
        for whole, part in itertools.product(SMALL[1], repeat=2):
            nothing += self.check_plans(whole, part, SMALL[1]) is None
        self.assertGreater(nothing, 50)

    def test_larger_plans(self):
        for whole, part in itertools.product(PLANS[::2], PARTS[::2]):
            self.check_plans(whole, part, PLANS[1::5] + PARTS[1::5])

    def test_what_is_told_is_within_and_the_fullest_of_it_too(self):
        some = 0
        for whole, part in itertools.product(PLANS, PARTS):
            told = over(whole, part)
            if told is not None:
                some += 1
                for plan in (told, fullest_hall(told), least_hall(told)):
                    self.assertTrue(within(beside(part, plan), whole))
        self.assertGreater(some, 100)

    def test_the_whole_beside_the_part_is_over_the_part(self):
        for whole, part in itertools.product(PLANS[::2], PARTS[::2]):
            both = over(beside(part, whole), part)
            self.assertTrue(within(whole, both))

    def check_halls(self, whole, part, halls, others):
        told = over(whole, part)
        fitting = [other for other in others if fits(other, part)]
        for hall in halls:
            granted = all(fits(beside(hall, other), whole) for other in fitting)
            self.assertEqual(told is not None and fits(hall, told), granted, (whole.told(), part.told(), hall.told()))

    def test_halls_over_one_action(self):
        # Up to being alike, these are all halls over one action with rows of up to nine actions, and those without
        # an end: with plans of two rooms nothing hangs on longer ones.
        for whole, part in itertools.product(SMALL[1], repeat=2):
            self.check_halls(whole, part, line_halls(5), line_halls(9))

    def test_halls_over_one_action_and_plans_of_three_rooms(self):
        plans = some_plans(103, 40, 3, 1, ("must", "may", "may", "shut"))
        parts = some_plans(104, 40, 3, 1, ("must", "must", "may", "shut"))
        for whole, part in itertools.product(plans, parts):
            self.check_halls(whole, part, line_halls(6), line_halls(14))

    def test_halls_over_two_actions(self):
        halls = all_halls(1, 2) + all_halls(2, 2)[::7]
        for whole, part in itertools.product(SMALL[0], repeat=2):
            self.check_halls(whole, part, halls, all_halls(1, 2))
        for whole, part in itertools.product(PLANS[::8], PARTS[::8]):
            told = over(whole, part)
            for hall in halls:
                for other in [other for other in halls if fits(other, part)] + [least_hall(part), fullest_hall(part)]:
                    if told is not None and fits(hall, told):
                        self.assertTrue(fits(beside(hall, other), whole))


class OwnListsTest(unittest.TestCase):
    def test_what_is_handed_in_stays(self):
        before = (WHOLE.told(), PART.told())
        division(WHOLE, PART)
        over(WHOLE, PART)
        self.assertEqual((WHOLE.told(), PART.told()), before)

    def test_told_lists_are_the_askers_own(self):
        draft, pairs = division(WHOLE, PART)
        told = draft.told()
        kept = list(pairs)
        pairs.clear()
        draft.told()[0].clear()
        self.assertEqual(draft.told(), told)
        again = division(WHOLE, PART)
        self.assertEqual((again[0].told(), again[1]), (told, kept))

    def test_the_actions_handed_in_may_be_changed(self):
        names = NAMES[:1]
        plan = Plan(names, [[may(0)]])
        draft = division(plan, plan)[0]
        told = over(plan, plan)
        names[0] = "x"
        draft.action_list().clear()
        told.action_list().clear()
        self.assertEqual((draft.action_list(), told.action_list()), (["a"], ["a"]))


if __name__ == "__main__":
    unittest.main()
