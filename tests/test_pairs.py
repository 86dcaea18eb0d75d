import itertools
import random
import unittest

from mustmay.errors import Unlike
from mustmay.halls import fullest_hall, least_hall
from mustmay.least import alike, least
from mustmay.pairs import fault_at, is_table, row_apart, table_of, within
from mustmay.plans import free_plan
from samples import SHUT, all_plans, is_within, line_plan, may, must, plan_of, ring_plan, some_plans, unlike_pairs

# Two rooms in turn within one room, two within three.
TURN = plan_of([[must(1), SHUT], [SHUT, must(0)]])
LOOSE = plan_of([[may(0), may(0)]])
THREE = plan_of([[may(1), may(2)], [may(2), may(0)], [may(0), may(1)]])


def faults_at(one, room, other, place):
    faults = []
    for action in range(len(one.action_list())):
        mine = one.door(room, action).word()
        its = other.door(place, action).word()
        if mine in ("must", "may") and its == "shut":
            faults.append((action, "extra"))
        if its == "must" and mine != "must":
            faults.append((action, "lacks"))
    return faults


def first_row_apart(one, other):
    """Promise 43, row by row; rows longer than the number of pairs come to no new pair."""
    level = [([], 0, 0)]
    for length in range(one.many() * other.many()):
        for row, room, place in level:
            faults = faults_at(one, room, other, place)
            if faults:
                return (row,) + faults[0]
        level = [
            (row + [action], one.door(room, action).to, other.door(place, action).to)
            for row, room, place in level
            for action in range(len(one.action_list()))
            if one.door(room, action).allows()
        ]
    return None


def pairs_behind(one, room, other, place):
    actions = range(len(one.action_list()))
    return [
        (one.door(room, action).to, other.door(place, action).to)
        for action in actions if one.door(room, action).allows()
    ]


def as_table(one, other, table):
    """Promise 42, word by word."""
    for room, place in table:
        if room not in range(one.many()) or place not in range(other.many()):
            return False
        if faults_at(one, room, other, place):
            return False
        if not set(pairs_behind(one, room, other, place)) <= set(table):
            return False
    return (0, 0) in table


def small_pairs():
    plans = all_plans(2, 1) + some_plans(41, 15, 3, 1)
    yield from itertools.product(plans, repeat=2)
    yield from itertools.product(all_plans(1, 2), repeat=2)
    plans = some_plans(42, 25, 3, 2)
    yield from itertools.product(plans, repeat=2)
    for plan in plans:
        yield (least_hall(plan), plan)
        yield (fullest_hall(plan), plan)
    lines = [line_plan(many, door) for many in range(1, 6) for door in (must, may)]
    yield from itertools.product(lines, repeat=2)
    for words in (("must", "may", "may", "may"), ("may",) * 9 + ("shut",)):
        yield from itertools.product(some_plans(43, 25, 3, 2, words), repeat=2)


class FaultTest(unittest.TestCase):
    def test_each_two_words(self):
        told = {
            ("must", "must"): None, ("must", "may"): None, ("must", "shut"): (0, "extra"),
            ("may", "must"): (0, "lacks"), ("may", "may"): None, ("may", "shut"): (0, "extra"),
            ("shut", "must"): (0, "lacks"), ("shut", "may"): None, ("shut", "shut"): None,
        }
        doors = {"must": must(0), "may": may(0), "shut": SHUT}
        for mine, its in told:
            one = plan_of([[doors[mine]]])
            other = plan_of([[doors[its]]])
            self.assertEqual(fault_at(one, 0, other, 0), told[mine, its], (mine, its))

    def test_the_first_action(self):
        one = plan_of([[must(0), may(0), SHUT, may(0)]])
        other = plan_of([[may(0), must(0), must(0), SHUT], [may(0), may(0), may(0), SHUT], [SHUT] * 4, [may(0)] * 4])
        self.assertEqual(fault_at(one, 0, other, 0), (1, "lacks"))
        self.assertEqual(fault_at(one, 0, other, 1), (3, "extra"))
        self.assertEqual(fault_at(one, 0, other, 2), (0, "extra"))
        self.assertIsNone(fault_at(one, 0, other, 3))

    def test_the_rooms_that_are_asked_for(self):
        one = plan_of([[SHUT], [must(0)]])
        other = plan_of([[must(0)], [may(0)], [SHUT]])
        told = [[fault_at(one, room, other, place) for place in range(3)] for room in range(2)]
        self.assertEqual(told, [[(0, "lacks"), None, None], [None, None, (0, "extra")]])

    def test_eight_actions(self):
        for action in range(8):
            one = plan_of([[may(0) if place == action else SHUT for place in range(8)]])
            self.assertEqual(fault_at(one, 0, plan_of([[SHUT] * 8]), 0), (action, "extra"))
            other = plan_of([[must(0) if place == action else SHUT for place in range(8)]])
            self.assertEqual(fault_at(plan_of([[SHUT] * 8]), 0, other, 0), (action, "lacks"))

    def test_as_the_document_says(self):
        for one, other in small_pairs():
            for room, place in itertools.product(range(one.many()), range(other.many())):
                told = fault_at(one, room, other, place)
                faults = faults_at(one, room, other, place)
                self.assertEqual(told, faults[0] if faults else None)

    def test_kinds(self):
        told = fault_at(plan_of([[may(0)]]), 0, plan_of([[SHUT]]), 0)
        self.assertEqual([type(told), type(told[0]), type(told[1])], [tuple, int, str])


class TableTest(unittest.TestCase):
    def test_tables(self):
        self.assertEqual(table_of(TURN, LOOSE), [(0, 0), (1, 0)])
        self.assertEqual(table_of(LOOSE, LOOSE), [(0, 0)])
        self.assertEqual(table_of(TURN, TURN), [(0, 0), (1, 1)])

    def test_order(self):
        self.assertEqual(table_of(LOOSE, THREE), [(0, 0), (0, 1), (0, 2)])
        self.assertEqual(table_of(THREE, LOOSE), [(0, 0), (1, 0), (2, 0)])
        back = plan_of([[may(2), may(1)], [may(0), may(2)], [may(1), may(0)]])
        order = [(0, 0), (1, 2), (2, 1)]
        self.assertEqual(table_of(THREE, back), order)
        self.assertEqual(table_of(LOOSE, back), [(0, 0), (0, 2), (0, 1)])
        self.assertEqual(table_of(TURN, THREE), [(0, 0), (1, 1)])
        turn = plan_of([[must(1), SHUT], [must(0), SHUT]])
        self.assertEqual(table_of(turn, THREE), [(0, 0), (1, 1), (0, 2), (1, 0), (0, 1), (1, 2)])

    def test_breadth_first(self):
        tree = plan_of([[may(1), may(2)], [may(3), may(4)], [may(5), may(6)]] + [[SHUT, SHUT]] * 4)
        self.assertEqual(table_of(tree, LOOSE), [(room, 0) for room in range(7)])
        deep = plan_of([[may(1), may(4)], [may(2), may(3)], [SHUT] * 2, [SHUT] * 2, [may(5), may(6)], [SHUT] * 2, [SHUT] * 2])
        self.assertEqual(table_of(deep, LOOSE), [(room, 0) for room in (0, 1, 4, 2, 3, 5, 6)])

    def test_rooms_that_no_row_comes_to_do_not_matter(self):
        one = plan_of([[SHUT], [must(1)]])
        other = plan_of([[may(1)], [must(1)]])
        self.assertEqual(table_of(one, other), [(0, 0)])

    def test_none(self):
        self.assertIsNone(table_of(LOOSE, TURN))
        self.assertIsNone(table_of(plan_of([[may(0)]]), plan_of([[SHUT]])))
        self.assertIsNone(table_of(plan_of([[SHUT]]), plan_of([[must(0)]])))
        self.assertIsNone(table_of(line_plan(4, must), line_plan(3, must)))
        self.assertIsNone(table_of(line_plan(3, must), line_plan(4, must)))

    def test_as_the_document_says(self):
        for one, other in small_pairs():
            table = table_of(one, other)
            told = is_within(one, other, one.many() * other.many())
            self.assertEqual(table is not None, told)
            self.assertIs(within(one, other), told)
            if told:
                self.check_table(one, other, table)

    def check_table(self, one, other, table):
        come_to = [(0, 0)]
        for pair in table:
            for behind in pairs_behind(one, pair[0], other, pair[1]):
                if behind not in come_to:
                    come_to.append(behind)
        self.assertEqual(table, come_to)
        self.assertTrue(is_table(one, other, table))
        self.assertTrue(as_table(one, other, table))

    def test_kinds(self):
        table = table_of(TURN, THREE)
        self.assertIs(type(table), list)
        for pair in table:
            self.assertEqual([type(pair), type(pair[0]), type(pair[1])], [tuple, int, int])


class WithinTest(unittest.TestCase):
    def test_within(self):
        self.assertIs(within(TURN, LOOSE), True)
        self.assertIs(within(LOOSE, TURN), False)
        self.assertIs(within(ring_plan(3, 2, must), ring_plan(4, 2)), True)
        self.assertIs(within(ring_plan(4, 2), ring_plan(3, 2, must)), False)

    def test_all_are_within_the_free_plan(self):
        for plan in some_plans(44, 60, 5, 3):
            self.assertIs(within(plan, free_plan(["a", "b", "c"])), True)
            self.assertIs(within(plan, plan), True)
            self.assertIs(within(least(plan), plan), True)

    def test_within_each_other_is_alike(self):
        for one, other in itertools.product(some_plans(45, 40, 3, 1), repeat=2):
            self.assertEqual(within(one, other) and within(other, one), alike(one, other))


class IsTableTest(unittest.TestCase):
    def test_other_orders_and_pairs_twice(self):
        one = plan_of([[must(1), SHUT], [must(0), SHUT]])
        table = table_of(one, THREE)
        self.assertEqual(len(table), 6)
        for order in itertools.permutations(table):
            self.assertIs(is_table(one, THREE, list(order)), True)
        self.assertIs(is_table(one, THREE, table + table), True)
        self.assertIs(is_table(one, THREE, [table[3]] + table + [table[0]]), True)

    def test_a_pair_missing(self):
        one = plan_of([[must(1), SHUT], [must(0), SHUT]])
        table = table_of(one, THREE)
        for pair in table:
            rest = [other for other in table if other != pair]
            self.assertIs(is_table(one, THREE, rest), False)
            self.assertIs(is_table(one, THREE, rest + rest), False)

    def test_the_empty_list(self):
        self.assertIs(is_table(LOOSE, LOOSE, []), False)
        self.assertIs(is_table(plan_of([[SHUT]]), plan_of([[SHUT]]), []), False)

    def test_more_pairs_than_are_come_to(self):
        one = plan_of([[SHUT], [may(0)], [may(1)]])
        other = plan_of([[may(0)], [may(1)]])
        self.assertIs(is_table(one, other, [(0, 0)]), True)
        self.assertIs(is_table(one, other, [(0, 0), (0, 1)]), True)
        self.assertIs(is_table(one, other, [(1, 0), (0, 0)]), True)
        self.assertIs(is_table(one, other, [(1, 1), (0, 0)]), False)
        self.assertIs(is_table(one, other, [(0, 1), (1, 1), (0, 0)]), True)
        self.assertIs(is_table(one, other, [(2, 0), (0, 0)]), False)
        self.assertIs(is_table(one, other, [(1, 0), (0, 1)]), False)

    def test_without_the_first_pair(self):
        one = plan_of([[may(1)], [may(1)]])
        self.assertIs(is_table(one, one, [(1, 1)]), False)
        self.assertIs(is_table(one, one, [(1, 1), (0, 0)]), True)

    def test_rooms_that_are_not_there(self):
        one = plan_of([[SHUT], [SHUT]])
        other = plan_of([[SHUT], [SHUT], [SHUT]])
        self.assertIs(is_table(one, other, [(0, 0), (1, 2)]), True)
        wrong = [(2, 0), (0, 3), (-1, 0), (0, -1), (-2, -3), (1, 3), (2, 2), (10 ** 20, 0), (0, 10 ** 20), (-10 ** 20, 0)]
        for pair in wrong:
            self.assertIs(is_table(one, other, [(0, 0), pair]), False, pair)
            self.assertIs(is_table(one, other, [pair, (0, 0)]), False, pair)
            self.assertIs(is_table(one, other, [pair]), False, pair)

    def test_pairs_with_a_fault(self):
        one = plan_of([[SHUT], [must(1)]])
        other = plan_of([[may(0)], [SHUT]])
        self.assertIs(is_table(one, other, [(0, 0), (1, 0)]), True)
        self.assertIs(is_table(one, other, [(0, 0), (1, 1)]), False)
        self.assertIs(is_table(plan_of([[SHUT]]), plan_of([[must(0)]]), [(0, 0)]), False)
        self.assertIs(is_table(plan_of([[may(0)]]), plan_of([[SHUT]]), [(0, 0)]), False)

    def test_as_the_document_says(self):
        chance = random.Random(42)
        good = 0
        for one, other in small_pairs():
            room = [number for number in range(one.many()) for time in range(6)] + [-1, one.many()]
            place = [number for number in range(other.many()) for time in range(6)] + [-1, other.many()]
            table = [(chance.choice(room), chance.choice(place)) for time in range(chance.randint(0, 6))]
            if chance.random() < 0.7:
                table = (table_of(one, other) or [(0, 0)]) + table[:chance.randint(0, 1)]
            told = as_table(one, other, table)
            self.assertIs(is_table(one, other, table), told, (one.told(), other.told(), table))
            if told:
                good += 1
                self.assertTrue(within(one, other))
        self.assertGreater(good, 50)


class RowApartTest(unittest.TestCase):
    def test_none(self):
        self.assertIsNone(row_apart(TURN, LOOSE))
        self.assertIsNone(row_apart(TURN, TURN))

    def test_a_fault_at_once(self):
        self.assertEqual(row_apart(LOOSE, TURN), ([], 0, "lacks"))
        self.assertEqual(row_apart(plan_of([[must(0), may(0)]]), TURN), ([], 1, "extra"))

    def test_long_rows(self):
        self.assertEqual(row_apart(line_plan(6), line_plan(5)), ([0] * 4, 0, "extra"))
        self.assertEqual(row_apart(line_plan(5, must), line_plan(6, must)), ([0] * 4, 0, "lacks"))
        # The one goes round by threes, the other by fives; the fault comes where both are at their ends.
        one = plan_of([[may(1), SHUT], [may(2), SHUT], [may(0), may(0)]])
        other = plan_of([[may(1), may(0)], [may(2), may(0)], [may(3), may(0)], [may(4), may(0)], [may(0), SHUT]])
        self.assertEqual(row_apart(one, other), ([0] * 14, 1, "extra"))

    def test_the_shortest_row(self):
        # Behind a a b there is a fault, and behind b a.
        one = plan_of([[may(1), may(2)], [may(3), SHUT], [may(4), SHUT], [SHUT, may(5)], [SHUT, may(5)], [may(5), SHUT]])
        other = plan_of([[may(1), may(2)], [may(3), SHUT], [may(4), SHUT], [SHUT, may(5)], [SHUT, SHUT], [SHUT, SHUT]])
        self.assertEqual(row_apart(one, other), ([1, 0], 1, "extra"))

    def test_the_first_of_the_shortest_rows(self):
        one = plan_of([[may(1), may(2)], [may(3), may(4)], [may(5), may(6)]] + [[may(0), SHUT]] * 4)
        rows = [[may(1), may(2)], [may(3), may(4)], [may(5), may(6)]]
        for bad in itertools.product((True, False), repeat=4):
            other = plan_of(rows + [[SHUT, SHUT] if wrong else [may(7), SHUT] for wrong in bad] + [[may(7), may(7)]])
            wanted = [[0, 0], [0, 1], [1, 0], [1, 1]]
            if any(bad):
                self.assertEqual(row_apart(one, other), (wanted[bad.index(True)], 0, "extra"))
            else:
                self.assertIsNone(row_apart(one, other))

    def test_the_first_fault_behind_it(self):
        one = plan_of([[may(1), SHUT, SHUT], [SHUT, SHUT, may(0)]])
        other = plan_of([[may(1), SHUT, SHUT], [may(0), must(0), SHUT]])
        self.assertEqual(row_apart(one, other), ([0], 1, "lacks"))

    def test_as_the_document_says(self):
        seen = set()
        for one, other in small_pairs():
            told = row_apart(one, other)
            self.assertEqual(told, first_row_apart(one, other), (one.told(), other.told()))
            if told is not None:
                seen.add((len(told[0]), told[2]))
        self.assertLessEqual({(length, word) for length in range(4) for word in ("extra", "lacks")}, seen)

    def test_alike_plans_give_the_same(self):
        for one, other in itertools.product(some_plans(46, 30, 6, 2), repeat=2):
            self.assertEqual(row_apart(one, other), row_apart(least(one), least(other)))

    def test_kinds(self):
        told = row_apart(line_plan(3), line_plan(2))
        self.assertEqual([type(part) for part in told], [list, int, str])
        self.assertIs(type(told), tuple)


class UnlikeTest(unittest.TestCase):
    def test_each_of_them(self):
        for one, other in unlike_pairs():
            for ask in (table_of, within, row_apart):
                with self.assertRaises(Unlike):
                    ask(one, other)
            with self.assertRaises(Unlike):
                fault_at(one, 0, other, 0)
            for table in ([(0, 0)], [], [(5, 5)]):
                with self.assertRaises(Unlike):
                    is_table(one, other, table)


class OwnListsTest(unittest.TestCase):
    def test_what_is_handed_in_stays(self):
        table = [(1, 0), (0, 0), (1, 0)]
        self.assertIs(is_table(TURN, LOOSE, table), True)
        self.assertEqual(table, [(1, 0), (0, 0), (1, 0)])
        for ask in (table_of, within, row_apart):
            ask(TURN, THREE)
            ask(THREE, TURN)
        self.assertEqual(TURN.told(), [[must(1), SHUT], [SHUT, must(0)]])
        self.assertEqual(THREE.told(), [[may(1), may(2)], [may(2), may(0)], [may(0), may(1)]])

    def test_told_lists_are_the_askers_own(self):
        first = table_of(TURN, LOOSE)
        second = table_of(TURN, LOOSE)
        self.assertIsNot(first, second)
        self.assertIsNot(first[0], second[0])
        first.clear()
        self.assertEqual(table_of(TURN, LOOSE), second)
        first = row_apart(line_plan(4), line_plan(3))
        second = row_apart(line_plan(4), line_plan(3))
        self.assertIsNot(first, second)
        first[0].clear()
        self.assertEqual(row_apart(line_plan(4), line_plan(3)), second)
        self.assertIsNot(fault_at(LOOSE, 0, TURN, 0), fault_at(LOOSE, 0, TURN, 0))


if __name__ == "__main__":
    unittest.main()
