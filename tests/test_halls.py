import itertools
import unittest

from mustmay.errors import NoWay, TooMany, Unlike
from mustmay.halls import fullest_hall, hall_along, hall_apart, least_hall, rooms_apart
from mustmay.least import least, parting
from mustmay.pairs import row_apart, within
from mustmay.plans import Plan, begun, free_plan
from samples import SHUT, all_plans, gone_rows, is_within, line_plan, may, must, plan_of, ring_plan, some_plans
from samples import unlike_pairs, words_at

# Room 3 is one that no row comes to.
PLAN = plan_of([
    [must(1), may(0), SHUT],
    [SHUT, may(2), must(0)],
    [may(2), SHUT, SHUT],
    [must(0), must(3), may(1)],
])
SAMPLES = all_plans(2, 1) + all_plans(1, 2) + some_plans(50, 60, 4, 2) + some_plans(51, 20, 3, 3) + [PLAN]


def fits(hall, plan):
    return hall.is_finished() and is_within(hall, plan, hall.many() * plan.many())


def along_as_written(plan, row, action, has):
    """What promise 45 describes, of the plan itself and not of its least plan."""
    many = len(plan.action_list())
    first = len(row) + 1
    rows = []
    for place in range(first):
        room = plan.after(row[:place])
        doors = []
        for number in range(many):
            door = plan.door(room, number)
            there = door.needs() or (place == len(row) and has and number == action)
            doors.append(must(first + door.to) if there else SHUT)
        if place < len(row):
            doors[row[place]] = must(place + 1)
        rows.append(doors)
    for room in range(plan.many()):
        doors = [plan.door(room, number) for number in range(many)]
        rows.append([must(first + door.to) if door.needs() else SHUT for door in doors])
    return least(plan_of(rows))


def where_no_way(plan, row, action, has):
    for place in range(len(row)):
        if plan.after(row[:place + 1]) is None:
            return place
    word = words_at(plan, plan.after(row))[action]
    if (word == "shut" and has) or (word == "must" and not has):
        return len(row)
    return None


class TwoHallsTest(unittest.TestCase):
    def test_least_hall(self):
        told = least_hall(PLAN)
        self.assertIsInstance(told, Plan)
        self.assertEqual(told.action_list(), ["a", "b", "c"])
        rows = [[must(1), SHUT, SHUT], [SHUT, SHUT, must(0)], [SHUT] * 3, [must(0), must(3), SHUT]]
        self.assertEqual(told.told(), rows)

    def test_fullest_hall(self):
        told = fullest_hall(PLAN)
        self.assertIsInstance(told, Plan)
        self.assertEqual(told.action_list(), ["a", "b", "c"])
        rows = [[must(1), must(0), SHUT], [SHUT, must(2), must(0)], [must(2), SHUT, SHUT], [must(0), must(3), must(1)]]
        self.assertEqual(told.told(), rows)

    def test_both_are_finished_and_fit(self):
        for plan in SAMPLES:
            for hall in (least_hall(plan), fullest_hall(plan)):
                self.assertEqual(hall.many(), plan.many())
                self.assertIs(hall.is_finished(), True)
                self.assertTrue(fits(hall, plan))
                self.assertIs(within(hall, plan), True)

    def test_of_a_hall_it_is_the_hall(self):
        hall = fullest_hall(PLAN)
        self.assertEqual(least_hall(hall).told(), hall.told())
        self.assertEqual(fullest_hall(hall).told(), hall.told())


class AlongTest(unittest.TestCase):
    def no_way(self, at, plan, row, action, has):
        with self.assertRaises(NoWay) as taken:
            hall_along(plan, row, action, has)
        self.assertEqual(taken.exception.at, at, (plan.told(), row, action, has))

    def test_the_row_without_actions(self):
        plan = plan_of([[may(1), must(0)], [must(1), SHUT]])
        self.assertEqual(hall_along(plan, [], 0, False).told(), [[SHUT, must(0)]])
        told = hall_along(plan, [], 0, True)
        self.assertEqual(told.told(), [[must(1), must(2)], [must(1), SHUT], [SHUT, must(2)]])
        self.assertEqual(hall_along(plan, [], 1, True).told(), [[SHUT, must(0)]])

    def test_a_row(self):
        plan = plan_of([[may(1), must(0)], [must(1), SHUT]])
        told = hall_along(plan, [1, 0], 0, True)
        self.assertIsInstance(told, Plan)
        # The room behind b; then the rooms of the least hall: 2 for room 1, 3 for room 0.
        self.assertEqual(told.told(), [[SHUT, must(1)], [must(2), must(3)], [must(2), SHUT], [SHUT, must(3)]])

    def test_must_doors_beside_the_row(self):
        plan = plan_of([[may(1), must(2), must(0)], [may(0), SHUT, must(2)], [SHUT, SHUT, may(1)]])
        told = hall_along(plan, [0], 0, True).told()
        rows = [
            [must(1), must(2), must(3)],
            [must(3), SHUT, must(2)],
            [SHUT, SHUT, SHUT],
            [SHUT, must(2), must(3)],
        ]
        self.assertEqual(told, rows)

    def test_a_must_door_of_the_row_leads_along_it(self):
        plan = plan_of([[must(0), may(0)]])
        told = hall_along(plan, [0, 0], 1, True).told()
        self.assertEqual(told, [[must(1), SHUT], [must(2), SHUT], [must(3), must(3)], [must(3), SHUT]])

    def test_an_action_that_is_there_or_not_as_it_stands(self):
        plan = plan_of([[must(0), SHUT, may(0)]])
        self.assertEqual(hall_along(plan, [], 0, True).told(), [[must(0), SHUT, SHUT]])
        self.assertEqual(hall_along(plan, [], 1, False).told(), [[must(0), SHUT, SHUT]])
        self.assertEqual(hall_along(plan, [], 2, False).told(), [[must(0), SHUT, SHUT]])
        self.assertEqual(hall_along(plan, [], 2, True).told(), [[must(1), SHUT, must(1)], [must(1), SHUT, SHUT]])

    def test_no_way_at_each_place(self):
        for place in range(5):
            self.no_way(place, line_plan(place + 1), [0] * 5, 0, True)
            self.no_way(place, line_plan(place + 1), [0] * 5, 0, False)
        self.no_way(0, PLAN, [2], 0, True)
        self.no_way(1, PLAN, [0, 0, 0], 0, True)
        self.no_way(3, PLAN, [1, 1, 0, 0], 1, False)

    def test_no_way_behind_the_row(self):
        self.no_way(0, PLAN, [], 0, False)
        self.no_way(0, PLAN, [], 2, True)
        self.no_way(2, PLAN, [1, 0], 0, True)
        self.no_way(2, PLAN, [1, 0], 2, False)
        self.no_way(5, line_plan(6), [0] * 5, 0, True)

    def test_as_the_document_says(self):
        for plan in SAMPLES:
            actions = range(len(plan.action_list()))
            rows = [list(row) for length in range(4) for row in itertools.product(actions, repeat=length)]
            for row, action, has in itertools.product(rows[:30], actions, (True, False)):
                at = where_no_way(plan, row, action, has)
                if at is None:
                    self.check_hall(plan, row, action, has)
                else:
                    self.no_way(at, plan, row, action, has)

    def check_hall(self, plan, row, action, has):
        hall = hall_along(plan, row, action, has)
        self.assertEqual(hall.action_list(), plan.action_list())
        self.assertEqual(hall.told(), along_as_written(plan, row, action, has).told())
        self.assertEqual(hall.told(), along_as_written(least(plan), row, action, has).told())
        self.assertIs(hall.is_finished(), True)
        self.assertIs(within(hall, plan), True)
        self.assertEqual(words_at(hall, hall.after(row))[action], "must" if has else "shut")

    def test_it_fits_by_the_words_of_the_document(self):
        for plan in some_plans(52, 30, 3, 2):
            for row, room in gone_rows(plan, 2):
                for action, word in enumerate(words_at(plan, room)):
                    for has in {"must": [True], "shut": [False], "may": [True, False]}[word]:
                        self.assertTrue(fits(hall_along(plan, row, action, has), plan))

    def test_too_many_at_its_bound(self):
        one = plan_of([[may(0)]])
        told = hall_along(one, [0] * 1998, 0, False)
        self.assertEqual(told.many(), 1999)
        self.assertEqual(told.after([0] * 1998), 1998)
        for length in (1999, 2000):
            with self.assertRaises(TooMany):
                hall_along(one, [0] * length, 0, False)
        three = plan_of([[may(1), SHUT], [may(2), SHUT], [may(0), must(2)]])
        self.assertEqual(least(three).many(), 3)
        self.assertIsNotNone(hall_along(three, [0] * 1996, 1, False).after([0] * 1996))
        with self.assertRaises(TooMany):
            hall_along(three, [0] * 1997, 1, False)

    def test_too_many_counts_the_rooms_of_the_least_plan(self):
        ring = ring_plan(2000, 1)
        self.assertEqual(hall_along(ring, [0] * 1998, 0, True).many(), 2000)
        with self.assertRaises(TooMany):
            hall_along(ring, [0] * 1999, 0, True)
        line = line_plan(1998)
        self.assertEqual(hall_along(line, [0], 0, False).told(), [[must(1)], [SHUT]])
        with self.assertRaises(TooMany):
            hall_along(line, [0, 0], 0, False)
        with self.assertRaises(TooMany):
            hall_along(line_plan(2000), [], 0, False)
        self.assertEqual(hall_along(line_plan(1999), [], 0, False).told(), [[SHUT]])
        aside = plan_of([[SHUT]] + line_plan(1999).told()[:-1] + [[must(1)]])
        self.assertEqual(hall_along(aside, [], 0, False).told(), [[SHUT]])

    def test_too_many_ahead_of_no_way(self):
        shut = plan_of([[SHUT]])
        self.no_way(0, shut, [0] * 1998, 0, True)
        with self.assertRaises(TooMany):
            hall_along(shut, [0] * 1999, 0, True)
        one = plan_of([[must(0)]])
        self.no_way(1998, one, [0] * 1998, 0, False)
        with self.assertRaises(TooMany):
            hall_along(one, [0] * 1999, 0, False)


class ApartTest(unittest.TestCase):
    def test_extra(self):
        told = hall_apart(line_plan(4), line_plan(3))
        self.assertIs(type(told), tuple)
        hall, row, action = told
        self.assertEqual((row, action), ([0, 0], 0))
        self.assertEqual(hall.told(), [[must(1)], [must(2)], [must(3)], [SHUT]])

    def test_lacks(self):
        hall, row, action = hall_apart(line_plan(4, may), line_plan(4, must))
        self.assertEqual((row, action), ([], 0))
        self.assertEqual(hall.told(), [[SHUT]])
        hall, row, action = hall_apart(line_plan(3, must), line_plan(5, must))
        self.assertEqual((row, action), ([0, 0], 0))
        self.assertEqual(hall.told(), [[must(1)], [must(2)], [SHUT]])

    def test_none(self):
        self.assertIsNone(hall_apart(line_plan(3), line_plan(4)))
        self.assertIsNone(hall_apart(PLAN, PLAN))
        self.assertIsNone(hall_apart(PLAN, free_plan(["a", "b", "c"])))

    def check_apart(self, one, other):
        told = hall_apart(one, other)
        apart = row_apart(one, other)
        self.assertEqual(told is None, within(one, other))
        if told is None:
            self.assertIsNone(apart)
            return
        hall, row, action = told
        self.assertEqual((row, action), apart[:2])
        self.assertEqual(hall.told(), along_as_written(one, row, action, apart[2] == "extra").told())
        self.assertTrue(fits(hall, one))
        self.assertFalse(fits(hall, other))
        behind = (words_at(hall, hall.after(row))[action], words_at(other, other.after(row))[action])
        self.assertEqual(behind, ("must", "shut") if apart[2] == "extra" else ("shut", "must"))

    def test_as_the_document_says(self):
        for plans in (all_plans(2, 1), all_plans(1, 2), some_plans(53, 25, 3, 2), some_plans(54, 12, 2, 3)):
            for one, other in itertools.product(plans, repeat=2):
                self.check_apart(one, other)

    def test_within_just_where_every_hall_fits(self):
        plans = all_plans(2, 1)
        halls = [plan for plan in plans + some_plans(55, 20, 4, 1, ("must", "shut")) if plan.is_finished()]
        fitting = [[is_within(hall, plan, 10) for hall in halls] for plan in plans]
        for one, mine in zip(plans, fitting):
            for other, its in zip(plans, fitting):
                if within(one, other):
                    self.assertTrue(all(theirs for fit, theirs in zip(mine, its) if fit))

    def test_alike_plans_give_the_same(self):
        for one, other in itertools.product(some_plans(56, 20, 6, 2), repeat=2):
            told = hall_apart(one, other)
            small = hall_apart(least(one), least(other))
            self.assertEqual(told is None, small is None)
            if told is not None:
                self.assertEqual((told[0].told(), told[1], told[2]), (small[0].told(), small[1], small[2]))

    def test_too_many_at_its_bound(self):
        one = plan_of([[may(0)]])
        for many in (1998, 1999):
            hall, row, action = hall_apart(one, line_plan(many))
            self.assertEqual((row, action), ([0] * (many - 1), 0))
            self.assertEqual(hall.many(), many + 1)
        with self.assertRaises(TooMany):
            hall_apart(one, line_plan(2000))
        self.assertEqual(hall_apart(line_plan(40), line_plan(49, must))[1:], ([], 0))
        self.assertIsNone(hall_apart(line_plan(40), line_plan(49)))
        for many, other in ((40, 50), (41, 48), (3, 666), (1000, 2), (2000, 1), (667, 2)):
            with self.assertRaises(TooMany):
                hall_apart(line_plan(many), line_plan(other, must))
        self.assertEqual(hall_apart(line_plan(1000), plan_of([[SHUT]]))[1:], ([], 0))
        self.assertEqual(hall_apart(line_plan(666), line_plan(2))[1:], ([0], 0))

    def test_too_many_ahead_of_none(self):
        self.assertIsNone(hall_apart(line_plan(44), line_plan(44)))
        with self.assertRaises(TooMany):
            hall_apart(line_plan(45), line_plan(45))
        with self.assertRaises(TooMany):
            hall_apart(line_plan(1001), plan_of([[may(0)]]))
        self.assertIsNone(hall_apart(line_plan(1000), plan_of([[may(0)]])))

    def test_too_many_counts_the_rooms_of_least_plans(self):
        self.assertIsNone(hall_apart(ring_plan(2000, 1), ring_plan(1999, 1)))
        hall, row, action = hall_apart(ring_plan(2000, 1), ring_plan(1999, 1, must))
        self.assertEqual((hall.told(), row, action), ([[SHUT]], [], 0))
        aside = plan_of([[SHUT]] + line_plan(1999).told()[:-1] + [[must(1)]])
        self.assertIsNone(hall_apart(aside, aside))

    def test_unlike(self):
        for one, other in unlike_pairs():
            with self.assertRaises(Unlike):
                hall_apart(one, other)

    def test_unlike_ahead_of_too_many(self):
        line = line_plan(1500)
        other = Plan(["b"], line.told())
        for pair in ((line, other), (other, line)):
            with self.assertRaises(Unlike):
                hall_apart(*pair)


class RoomsApartTest(unittest.TestCase):
    def test_by_the_room(self):
        # Room 0 allows what room 1 has shut.
        hall, which = rooms_apart(plan_of([[may(0)], [SHUT]]), 0, 1)
        self.assertEqual((hall.told(), which), ([[must(1)], [SHUT]], 0))

    def test_by_the_other(self):
        # Room 0 is within room 1, so it is asked for room 1.
        told = rooms_apart(plan_of([[SHUT], [may(1)]]), 0, 1)
        self.assertIs(type(told), tuple)
        hall, which = told
        self.assertEqual((hall.told(), which), ([[must(1)], [SHUT]], 1))

    def test_the_room_is_asked_for_first(self):
        plan = plan_of([[must(0), SHUT], [SHUT, must(1)]])
        self.assertEqual(rooms_apart(plan, 0, 1)[0].told(), [[must(0), SHUT]])
        self.assertEqual(rooms_apart(plan, 0, 1)[1], 0)
        self.assertEqual(rooms_apart(plan, 1, 0)[0].told(), [[SHUT, must(0)]])
        self.assertEqual(rooms_apart(plan, 1, 0)[1], 1)

    def test_none(self):
        self.assertIsNone(rooms_apart(ring_plan(4, 2), 1, 3))
        for room in range(4):
            self.assertIsNone(rooms_apart(PLAN, room, room))

    def test_as_the_document_says(self):
        for plan in some_plans(57, 60, 4, 2) + all_plans(2, 1) + [PLAN]:
            for room, other in itertools.product(range(plan.many()), repeat=2):
                self.check_rooms(plan, room, other)

    def check_rooms(self, plan, room, other):
        told = rooms_apart(plan, room, other)
        self.assertEqual(told is None, parting(plan, room, other) is None)
        one, two = begun(plan, room), begun(plan, other)
        if told is None:
            self.assertTrue(within(one, two) and within(two, one))
        elif within(one, two):
            self.assertEqual((told[0].told(), told[1]), (hall_apart(two, one)[0].told(), other))
            self.assertTrue(fits(told[0], two))
            self.assertFalse(fits(told[0], one))
        else:
            self.assertEqual((told[0].told(), told[1]), (hall_apart(one, two)[0].told(), room))
            self.assertTrue(fits(told[0], one))
            self.assertFalse(fits(told[0], two))

    def test_too_many(self):
        line = line_plan(60)
        # Begun at room n there are 60 - n rooms.
        self.assertIsNone(rooms_apart(line, 16, 16))
        with self.assertRaises(TooMany):
            rooms_apart(line, 15, 15)
        with self.assertRaises(TooMany):
            rooms_apart(line, 15, 14)
        self.assertEqual(rooms_apart(line, 16, 17)[1], 16)

    def test_each_asking_has_its_own_bound(self):
        # Room 0 alone, or 1500 rooms from room 1 on, behind a first room of another kind.
        rows = [[SHUT]] + [[may(room + 2)] for room in range(1499)] + [[SHUT]]
        plan = plan_of(rows)
        with self.assertRaises(TooMany):
            rooms_apart(plan, 1, 0)
        with self.assertRaises(TooMany):
            rooms_apart(plan, 0, 1)
        rows[0] = [must(0)]
        hall, which = rooms_apart(plan_of(rows), 0, 1)
        self.assertEqual((hall.told(), which), ([[must(0)]], 0))
        with self.assertRaises(TooMany):
            rooms_apart(plan_of(rows), 1, 0)

    def test_one_and_the_same_room_is_refused_too(self):
        with self.assertRaises(TooMany):
            rooms_apart(line_plan(45), 0, 0)
        self.assertIsNone(rooms_apart(line_plan(44), 0, 0))


class OwnListsTest(unittest.TestCase):
    def test_what_is_handed_in_stays(self):
        before = PLAN.told()
        row = [1, 0]
        hall = hall_along(PLAN, row, 1, True)
        self.assertEqual(row, [1, 0])
        told = hall.told()
        row.clear()
        self.assertEqual(hall.told(), told)
        least_hall(PLAN).told().clear()
        fullest_hall(PLAN).told()[0].clear()
        rooms_apart(PLAN, 0, 1)
        self.assertEqual(PLAN.told(), before)

    def test_told_rows_are_the_askers_own(self):
        one, other = line_plan(4), line_plan(3)
        hall, row, action = hall_apart(one, other)
        told = hall.told()
        row.append(0)
        self.assertEqual(hall.told(), told)
        self.assertEqual(hall_apart(one, other)[1], [0, 0])
        self.assertIsNot(hall_apart(one, other), hall_apart(one, other))


if __name__ == "__main__":
    unittest.main()
