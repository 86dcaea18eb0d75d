import itertools
import unittest

from mustmay.errors import Unlike
from mustmay.least import alike, classes, least, parting, reached
from mustmay.plans import Plan, begun
from samples import SHUT, all_plans, gone_rows, line_plan, may, must, plan_of, ring_plan, some_plans, told_apart
from samples import unlike_pairs

# Rooms 0, 1 and 4 are alike in a ring; rooms 2 and 5 are alike; no row comes to 3, 5 and 6; 6 is alike to none.
MIXED = plan_of([
    [must(1), may(2)],
    [must(4), may(2)],
    [SHUT, may(2)],
    [must(0), may(5)],
    [must(0), may(2)],
    [SHUT, may(5)],
    [must(6), SHUT],
])
SAMPLES = all_plans(2, 1) + all_plans(1, 2) + some_plans(30, 120, 5, 2) + some_plans(31, 60, 4, 3)
SAMPLES += some_plans(32, 60, 6, 2, ("may", "may", "shut")) + some_plans(33, 40, 7, 1, ("must", "must", "shut"))
SAMPLES += [MIXED, ring_plan(5, 2), line_plan(6), line_plan(6, must)]


def by_rows(plan):
    """Promise 30 by rows: a room stands where the first row that comes to it stands."""
    order = []
    for row, room in gone_rows(plan, plan.many() - 1):
        if room not in order:
            order.append(room)
    return order


def least_alike(plan, room):
    return min(other for other in range(plan.many()) if told_apart(plan, plan, plan.many(), room, other) is None)


def firsts_by_pairs(plan):
    """Promise 31 by all pairs of rooms at once, for plans with too many rows."""
    rooms = range(plan.many())
    told = plan.told()
    words = [[word for word, to in row] for row in told]
    same = [[words[room] == words[other] for other in rooms] for room in rooms]
    changed = True
    while changed:
        changed = False
        for room, other in itertools.combinations(rooms, 2):
            ends = [(mine[1], its[1]) for mine, its in zip(told[room], told[other]) if mine[1] is not None]
            if same[room][other] and not all(same[to][its] for to, its in ends):
                same[room][other] = same[other][room] = False
                changed = True
    return [same[room].index(True) for room in rooms]


class ReachedTest(unittest.TestCase):
    def test_order(self):
        plan = plan_of([[must(3), may(1)], [may(0), must(4)], [may(0), must(5)], [may(2), must(1)], [SHUT] * 2, [SHUT] * 2])
        self.assertEqual(reached(plan), [0, 3, 1, 2, 4, 5])

    def test_order_of_the_actions(self):
        self.assertEqual(reached(plan_of([[may(2), must(1)], [SHUT] * 2, [SHUT] * 2])), [0, 2, 1])
        self.assertEqual(reached(plan_of([[must(1), may(2)], [SHUT] * 2, [SHUT] * 2])), [0, 1, 2])

    def test_breadth_first(self):
        plan = plan_of([[may(1), may(2)], [may(3), SHUT], [may(4), SHUT], [may(5), SHUT], [SHUT] * 2, [SHUT] * 2])
        self.assertEqual(reached(plan), [0, 1, 2, 3, 4, 5])

    def test_rooms_that_no_row_comes_to(self):
        self.assertEqual(reached(plan_of([[SHUT], [must(0)]])), [0])
        self.assertEqual(reached(plan_of([[may(2)], [must(0)], [SHUT]])), [0, 2])
        self.assertEqual(reached(MIXED), [0, 1, 2, 4])

    def test_one_room(self):
        self.assertEqual(reached(plan_of([[SHUT]])), [0])
        self.assertEqual(reached(plan_of([[must(0), may(0)]])), [0])

    def test_as_rows_come(self):
        for plan in SAMPLES:
            self.assertEqual(reached(plan), by_rows(plan), plan.told())


class ClassesTest(unittest.TestCase):
    def test_alike_in_rings(self):
        self.assertEqual(classes(MIXED), [0, 0, 2, 0, 0, 2, 6])
        self.assertEqual(classes(ring_plan(7, 3)), [0] * 7)
        self.assertEqual(classes(plan_of([[may(1)], [may(2)], [may(0)], [may(4)], [may(3)]])), [0] * 5)
        self.assertEqual(classes(plan_of([[may(1)], [must(0)], [may(3)], [must(2)]])), [0, 1, 0, 1])

    def test_none_alike(self):
        self.assertEqual(classes(line_plan(9)), list(range(9)))
        self.assertEqual(classes(line_plan(9, must)), list(range(9)))

    def test_words_matter(self):
        self.assertEqual(classes(plan_of([[must(0)], [may(1)], [SHUT], [SHUT], [may(0)]])), [0, 1, 2, 2, 4])

    def test_actions_matter(self):
        self.assertEqual(classes(plan_of([[may(0), SHUT], [SHUT, may(1)]])), [0, 1])
        plan = plan_of([[may(2), may(3)], [may(3), may(2)], [SHUT, SHUT], [may(3), SHUT]])
        self.assertEqual(classes(plan), [0, 1, 2, 3])

    def test_as_the_document_says(self):
        for plan in SAMPLES:
            self.assertEqual(classes(plan), [least_alike(plan, room) for room in range(plan.many())], plan.told())

    def test_more_rooms(self):
        words = [("may", "must"), ("may",) * 5 + ("must",), ("may",) * 9 + ("shut",), ("may",) * 30 + ("must",)]
        for number, choice in enumerate(words):
            for actions in (1, 2, 3):
                for plan in some_plans(370 + number, 60, 24, actions, choice):
                    self.assertEqual(classes(plan), firsts_by_pairs(plan), plan.told())

    def test_a_block_whose_larger_part_goes_on(self):
        # In the second round rooms 0 to 4 lead to new blocks, 0 to 2 to one of them, 3 and 4 to another, and 5 doesn't.
        rows = [[may(6)], [may(6)], [may(6)], [may(7)], [may(7)], [may(8)], [may(9)], [may(10)], [may(8)], [must(9)], [SHUT]]
        plan = plan_of(rows)
        self.assertEqual(classes(plan), [0, 0, 0, 3, 3, 5, 6, 7, 5, 9, 10])
        self.assertEqual(classes(plan), firsts_by_pairs(plan))

    def test_numbers(self):
        for room in classes(MIXED):
            self.assertIs(type(room), int)


class PartingTest(unittest.TestCase):
    def test_a_room_with_itself(self):
        for plan in (MIXED, line_plan(3), ring_plan(3, 2), plan_of([[SHUT]])):
            for room in range(plan.many()):
                self.assertIsNone(parting(plan, room, room))

    def test_alike_rooms(self):
        for room, other in itertools.product((0, 1, 3, 4), repeat=2):
            self.assertIsNone(parting(MIXED, room, other))
        self.assertIsNone(parting(MIXED, 2, 5))

    def test_parted_at_once(self):
        self.assertEqual(parting(MIXED, 0, 2), ([], 0))
        self.assertEqual(parting(MIXED, 0, 6), ([], 1))
        self.assertEqual(parting(plan_of([[may(0)], [must(1)]]), 0, 1), ([], 0))
        self.assertEqual(parting(plan_of([[SHUT, SHUT, may(0)], [SHUT, must(0), SHUT]]), 0, 1), ([], 1))

    def test_the_shortest_row(self):
        rows = [[may(2), may(4)], [may(3), may(5)], [SHUT, may(6)], [SHUT, may(7)], [may(6), SHUT], [may(8), SHUT]]
        rows += [[SHUT, may(6)], [SHUT, must(6)], [must(8), may(8)]]
        self.assertEqual(parting(plan_of(rows), 0, 1), ([0, 1], 1))
        # Now a, b, b parts them, and b, a sooner, though it begins with the later action.
        rows[3][1] = may(9)
        rows.append([SHUT, may(10)])
        rows.append([SHUT, SHUT])
        self.assertEqual(parting(plan_of(rows), 0, 1), ([1, 0], 0))

    def test_the_first_of_the_shortest_rows(self):
        rows = [[may(2), may(3)], [may(4), may(5)], [SHUT, SHUT], [SHUT, SHUT], [SHUT, may(0)], [may(0), SHUT]]
        self.assertEqual(parting(plan_of(rows), 0, 1), ([0], 1))
        rows[4] = [SHUT, SHUT]
        self.assertEqual(parting(plan_of(rows), 0, 1), ([1], 0))

    def test_rows_differ_at_their_first_place(self):
        # a b comes ahead of b a.
        rows = [[may(2), may(3)], [may(4), may(5)]]
        rows += [[may(6), may(6)], [may(6), may(6)], [may(6), may(7)], [may(7), may(6)], [SHUT, SHUT], [SHUT, must(0)]]
        self.assertEqual(parting(plan_of(rows), 0, 1), ([0, 1], 1))

    def test_the_first_action_behind_it(self):
        rows = [[may(2), SHUT, SHUT], [may(3), SHUT, SHUT], [SHUT, may(0), must(0)], [SHUT, must(0), SHUT]]
        self.assertEqual(parting(plan_of(rows), 0, 1), ([0], 1))

    def test_rooms_that_no_row_comes_to(self):
        plan = plan_of([[SHUT], [may(2)], [may(3)], [must(0)], [may(2)]])
        self.assertEqual(parting(plan, 1, 2), ([0], 0))
        self.assertEqual(parting(plan, 2, 1), ([0], 0))
        self.assertIsNone(parting(plan, 1, 4))

    def test_a_long_row(self):
        self.assertEqual(parting(line_plan(9), 0, 1), ([0] * 7, 0))
        self.assertEqual(parting(line_plan(9), 3, 6), ([0, 0], 0))

    def test_as_the_document_says(self):
        for plan in SAMPLES:
            for room, other in itertools.product(range(plan.many()), repeat=2):
                told = told_apart(plan, plan, plan.many(), room, other)
                self.assertEqual(parting(plan, room, other), told, (plan.told(), room, other))

    def test_kinds(self):
        told = parting(line_plan(3), 0, 1)
        self.assertIs(type(told), tuple)
        self.assertIs(type(told[0]), list)
        self.assertIs(type(told[1]), int)
        self.assertIs(type(told[0][0]), int)


class LeastTest(unittest.TestCase):
    def test_alike_rooms_and_rooms_that_no_row_comes_to(self):
        told = least(MIXED)
        self.assertIsInstance(told, Plan)
        self.assertEqual(told.action_list(), ["a", "b"])
        self.assertEqual(told.told(), [[must(0), may(1)], [SHUT, may(1)]])

    def test_order(self):
        # The list is 0, 3, 1, 2; rooms 2 and 3 are alike.
        plan = plan_of([[may(3), must(1)], [may(2), may(0)], [SHUT, SHUT], [SHUT, SHUT]])
        self.assertEqual(reached(plan), [0, 3, 1, 2])
        self.assertEqual(least(plan).told(), [[may(1), must(2)], [SHUT, SHUT], [may(1), may(0)]])

    def test_an_alike_room_that_no_row_comes_to(self):
        plan = plan_of([[may(2)], [SHUT], [SHUT]])
        self.assertEqual(least(plan).told(), [[may(1)], [SHUT]])

    def test_one_room_is_left(self):
        self.assertEqual(least(ring_plan(6, 3, must)).told(), [[must(0)] * 3])
        self.assertEqual(least(plan_of([[SHUT], [may(0)]])).told(), [[SHUT]])

    def test_nothing_to_be_put_together(self):
        plan = line_plan(5)
        self.assertEqual(least(plan).told(), plan.told())

    def test_names_of_actions_stay(self):
        plan = Plan(["send", "open"], [[must(1), SHUT], [must(0), SHUT]])
        self.assertEqual(least(plan).action_list(), ["send", "open"])

    def test_what_the_document_says_of_it(self):
        for plan in SAMPLES:
            small = least(plan)
            self.assertEqual(small.action_list(), plan.action_list())
            self.assertIsNone(told_apart(plan, small, plan.many() + small.many()), plan.told())
            self.assertEqual(classes(small), list(range(small.many())), plan.told())
            self.assertEqual(reached(small), list(range(small.many())), plan.told())
            self.assertEqual(least(small).told(), small.told(), plan.told())
            self.assertTrue(alike(plan, small))

    def test_numbers_of_rooms(self):
        for plan in SAMPLES:
            firsts = []
            for room in reached(plan):
                if least_alike(plan, room) not in [least_alike(plan, other) for other in firsts]:
                    firsts.append(room)
            small = least(plan)
            self.assertEqual(small.many(), len(firsts))
            for number, room in enumerate(firsts):
                self.assertIsNone(told_apart(small, plan, plan.many(), number, room))

    def test_the_same_rooms_in_another_order(self):
        for plan in some_plans(34, 30, 5, 2):
            rest = list(range(1, plan.many()))
            for order in itertools.permutations(rest):
                numbers = {None: None, 0: 0}
                numbers.update(zip(order, rest))
                rows = [None] * plan.many()
                for room, row in enumerate(plan.told()):
                    rows[numbers[room]] = [(word, numbers[to]) for word, to in row]
                self.assertEqual(least(plan_of(rows)).told(), least(plan).told())


class AlikeTest(unittest.TestCase):
    def test_other_numbers_of_rooms(self):
        self.assertIs(alike(ring_plan(2, 2), ring_plan(5, 2)), True)
        self.assertIs(alike(MIXED, plan_of([[must(0), may(1)], [SHUT, may(1)]])), True)
        self.assertIs(alike(line_plan(4), line_plan(5)), False)

    def test_words(self):
        self.assertIs(alike(plan_of([[must(0)]]), plan_of([[may(0)]])), False)
        self.assertIs(alike(plan_of([[SHUT]]), plan_of([[may(0)]])), False)
        self.assertIs(alike(plan_of([[SHUT]]), plan_of([[SHUT], [must(0)]])), True)

    def test_as_the_document_says(self):
        plans = all_plans(2, 1) + some_plans(35, 30, 3, 1)
        for one, other in itertools.product(plans, repeat=2):
            told = alike(one, other)
            self.assertIs(told, told_apart(one, other, one.many() + other.many()) is None)
            self.assertEqual(told, least(one).told() == least(other).told())

    def test_begun_rooms(self):
        for plan in some_plans(36, 40, 5, 2):
            for room, other in itertools.product(range(plan.many()), repeat=2):
                told = alike(begun(plan, room), begun(plan, other))
                self.assertEqual(told, parting(plan, room, other) is None)

    def test_unlike(self):
        for one, other in unlike_pairs():
            with self.assertRaises(Unlike):
                alike(one, other)


class OwnListsTest(unittest.TestCase):
    def test_told_lists_are_the_askers_own(self):
        plan = Plan(MIXED.action_list(), MIXED.told())
        before = plan.told()
        for ask in (reached, classes):
            first = ask(plan)
            second = ask(plan)
            self.assertIsNot(first, second)
            first.clear()
            self.assertEqual(ask(plan), second)
        first = parting(line_plan(4), 0, 1)
        second = parting(line_plan(4), 0, 1)
        self.assertIsNot(first, second)
        first[0].clear()
        self.assertEqual(parting(line_plan(4), 0, 1), second)
        least(plan).told().clear()
        alike(plan, plan)
        parting(plan, 0, 6)
        self.assertEqual(plan.told(), before)
        self.assertEqual(plan.action_list(), ["a", "b"])


if __name__ == "__main__":
    unittest.main()
