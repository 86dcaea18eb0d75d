import copy
import unittest

from mustmay.doors import Door, May, Must, Shut, Torn
from mustmay.errors import BadPlan, HallError, Unlike
from mustmay.plans import Draft, Plan, begun, free_plan, is_name, need_same, word_after

SHUT = ("shut", None)
TORN = ("torn", None)
ACTIONS = ["open", "send", "stop"]

# Room 3 is one that no row comes to.
PLAN_ROWS = [
    [("must", 1), ("may", 0), SHUT],
    [SHUT, ("may", 2), ("must", 0)],
    [("may", 2), SHUT, SHUT],
    [("must", 0), ("must", 3), ("may", 1)],
]
DRAFT_ROWS = [
    [("must", 1), TORN, SHUT],
    [("may", 0), ("must", 1), TORN],
]
HALL_ROWS = [
    [("must", 1), SHUT, ("must", 0)],
    [SHUT, SHUT, ("must", 0)],
]


def must(to):
    return ("must", to)


def may(to):
    return ("may", to)


class AlwaysEqual:
    def __eq__(self, other):
        return True

    def __hash__(self):
        return 0


class NamesTest(unittest.TestCase):
    def test_names(self):
        for text in ("a", "z", "open", "must", "actions", "azazazaz", "abcdefgh", "ijklmnop", "qrstuvwx", "yz"):
            self.assertIs(is_name(text), True, text)

    def test_texts_that_are_no_names(self):
        wrong = ["", "abcdefghi", "a" * 5000, "A", "aB", "a1", "1", "a b", " a", "a ", "a\n", "\n", "a_b", "a-b"]
        wrong += ["`", "{", "@", "\u00e4", "\u00aa", "\u0430", "a\u0301", "\u00df", "a\0"]
        for text in wrong:
            self.assertIs(is_name(text), False, repr(text))

    def test_things_of_other_kinds(self):
        things = [None, True, False, 0, 1, 1.5, b"a", ["a"], ("a",), {"a": 1}, {"a"}, [], (), {}, object(), str, len]
        for thing in things + [AlwaysEqual(), bytearray(b"abc"), range(3)]:
            self.assertIs(is_name(thing), False, repr(thing))


class ToldTest(unittest.TestCase):
    def test_plan_is_a_draft(self):
        plan = Plan(ACTIONS, PLAN_ROWS)
        self.assertIsInstance(plan, Draft)
        self.assertNotIsInstance(Draft(ACTIONS, PLAN_ROWS), Plan)
        self.assertEqual(Plan.__bases__, (Draft,))

    def test_plan_told(self):
        for kind in (Plan, Draft):
            thing = kind(ACTIONS, PLAN_ROWS)
            self.assertEqual(thing.action_list(), ["open", "send", "stop"])
            self.assertEqual(thing.many(), 4)
            self.assertEqual(thing.told(), PLAN_ROWS)

    def test_draft_told(self):
        draft = Draft(ACTIONS, DRAFT_ROWS)
        self.assertEqual(draft.action_list(), ["open", "send", "stop"])
        self.assertEqual(draft.many(), 2)
        self.assertEqual(draft.told(), DRAFT_ROWS)

    def test_smallest(self):
        plan = Plan(["a"], [[SHUT]])
        self.assertEqual((plan.action_list(), plan.many(), plan.told()), (["a"], 1, [[SHUT]]))
        self.assertEqual(plan.after([]), 0)

    def test_kinds_of_what_is_told(self):
        told = Plan(ACTIONS, PLAN_ROWS).told()
        self.assertIs(type(told), list)
        for row in told:
            self.assertIs(type(row), list)
            for door in row:
                self.assertIs(type(door), tuple)

    def test_doors(self):
        kinds = {"must": Must, "may": May, "shut": Shut, "torn": Torn}
        for kind, rows in ((Plan, PLAN_ROWS), (Draft, PLAN_ROWS), (Draft, DRAFT_ROWS)):
            thing = kind(ACTIONS, rows)
            for room, row in enumerate(rows):
                for action, told in enumerate(row):
                    door = thing.door(room, action)
                    self.assertIsInstance(door, Door)
                    self.assertIsInstance(door, kinds[told[0]])
                    self.assertEqual(door.told(), told)

    def test_is_finished(self):
        self.assertIs(Plan(ACTIONS, HALL_ROWS).is_finished(), True)
        self.assertIs(Draft(ACTIONS, HALL_ROWS).is_finished(), True)
        self.assertIs(Plan(["a"], [[SHUT]]).is_finished(), True)
        self.assertIs(Plan(ACTIONS, PLAN_ROWS).is_finished(), False)

    def test_may_or_torn_in_a_room_that_no_row_comes_to(self):
        for kind, door in ((Plan, may(0)), (Draft, may(0)), (Draft, TORN)):
            self.assertIs(kind(ACTIONS, HALL_ROWS + [[SHUT, SHUT, door]]).is_finished(), False)
            self.assertIs(kind(ACTIONS, [[door, SHUT, SHUT]] + HALL_ROWS).is_finished(), False)

    def test_torn_alone_is_not_finished(self):
        self.assertIs(Draft(["a"], [[TORN]]).is_finished(), False)


class RowsTest(unittest.TestCase):
    def test_after(self):
        plan = Plan(ACTIONS, PLAN_ROWS)
        gone = [([], 0), ([0], 1), ([1], 0), ([1, 1, 0], 1), ([0, 1], 2), ([0, 2], 0), ([0, 1, 0, 0, 0], 2)]
        for row, room in gone:
            self.assertEqual(plan.after(row), room, row)
            self.assertIsInstance(plan.after(row), int)

    def test_after_rows_that_cannot_be_gone(self):
        plan = Plan(ACTIONS, PLAN_ROWS)
        for row in ([2], [0, 0], [1, 2], [0, 1, 1], [2, 0], [0, 0, 2]):
            self.assertIsNone(plan.after(row), row)

    def test_after_in_a_draft(self):
        draft = Draft(ACTIONS, DRAFT_ROWS)
        self.assertEqual(draft.after([]), 0)
        self.assertEqual(draft.after([0, 1, 1]), 1)
        self.assertEqual(draft.after([0, 0]), 0)
        self.assertIsNone(draft.after([1]))
        self.assertIsNone(draft.after([2]))
        self.assertIsNone(draft.after([0, 2]))

    def test_longest_row(self):
        plan = Plan(["a", "b"], [[must(1), SHUT], [may(0), SHUT]])
        self.assertEqual(plan.after([0] * 2000), 0)
        self.assertEqual(plan.after([0] * 1999), 1)
        self.assertIsNone(plan.after([0] * 1999 + [1]))

    def test_word_after(self):
        plan = Plan(ACTIONS, PLAN_ROWS)
        words = [
            ([], ["must", "may", "shut"]),
            ([1], ["must", "may", "shut"]),
            ([0], ["shut", "may", "must"]),
            ([0, 1], ["may", "shut", "shut"]),
            ([0, 2], ["must", "may", "shut"]),
            ([2], [None, None, None]),
            ([0, 0, 2], [None, None, None]),
        ]
        for row, told in words:
            self.assertEqual([word_after(plan, row, action) for action in range(3)], told, row)

    def test_rows_are_not_changed(self):
        plan = Plan(ACTIONS, PLAN_ROWS)
        row = [0, 1, 0]
        plan.after(row)
        word_after(plan, row, 1)
        self.assertEqual(row, [0, 1, 0])


class OwnListsTest(unittest.TestCase):
    def test_lists_handed_in_may_be_changed(self):
        for kind in (Draft, Plan):
            actions = list(ACTIONS)
            rows = copy.deepcopy(PLAN_ROWS)
            thing = kind(actions, rows)
            self.assertEqual((actions, rows), (ACTIONS, PLAN_ROWS))
            actions[0] = "other"
            actions.append("more")
            rows[0][0] = SHUT
            rows[1].clear()
            rows.pop()
            self.assertEqual(thing.action_list(), ACTIONS)
            self.assertEqual(thing.many(), 4)
            self.assertEqual(thing.told(), PLAN_ROWS)
            self.assertEqual(thing.door(0, 0).told(), must(1))
            self.assertEqual(thing.after([0, 1]), 2)

    def test_one_list_in_several_places(self):
        row = [must(0), may(1)]
        plan = Plan(["a", "b"], [row, row])
        told = plan.told()
        told[0][0] = SHUT
        self.assertEqual(told[1], [must(0), may(1)])
        self.assertEqual(plan.told(), [[must(0), may(1)], [must(0), may(1)]])

    def test_told_lists_are_new_each_time(self):
        for kind, rows in ((Plan, PLAN_ROWS), (Draft, DRAFT_ROWS)):
            thing = kind(ACTIONS, rows)
            self.assertIsNot(thing.action_list(), thing.action_list())
            first = thing.told()
            second = thing.told()
            self.assertIsNot(first, second)
            for row, other in zip(first, second):
                self.assertIsNot(row, other)
                for door, same in zip(row, other):
                    self.assertIsNot(door, same)
            first[0][0] = "spoiled"
            first.pop()
            thing.action_list().clear()
            self.assertEqual(thing.told(), rows)
            self.assertEqual(thing.action_list(), ACTIONS)

    def test_told_is_not_what_was_handed_in(self):
        rows = copy.deepcopy(PLAN_ROWS)
        actions = list(ACTIONS)
        plan = Plan(actions, rows)
        self.assertIsNot(plan.told(), rows)
        self.assertIsNot(plan.told()[0], rows[0])
        self.assertIsNot(plan.told()[0][0], rows[0][0])
        self.assertIsNot(plan.action_list(), actions)

    def test_a_told_door_changes_no_plan(self):
        plan = Plan(ACTIONS, PLAN_ROWS)
        plan.door(0, 0).to = 2
        plan.door(0, 0).led(3)
        self.assertEqual(plan.told(), PLAN_ROWS)
        self.assertEqual(plan.door(0, 0).to, 1)


class BadPlanTest(unittest.TestCase):
    def check(self, room, action, actions, rows, kinds=(Draft, Plan)):
        for kind in kinds:
            with self.assertRaises(BadPlan) as taken:
                kind(actions, rows)
            self.assertEqual((taken.exception.room, taken.exception.action), (room, action), (actions, rows))
            self.assertIsInstance(taken.exception, HallError)

    def test_wrong_actions(self):
        wrong = [None, True, 3, 1.5, "a", "ab", ("a", "b"), {"a": 0}, {"a"}, object(), b"a", iter(["a"])]
        wrong += [[], list("abcdefghi"), ["a", "a"], ["a", "b", "c", "a"], ["abcdefghi"], [""], ["a", ""]]
        wrong += [["A"], ["a", "b1"], ["a b"], ["a\n"], ["\u00e4"], ["a", None], [3], [True], [["a"]], [("a",)]]
        wrong += [[b"a"], [{}], [AlwaysEqual()], [["a"], ["a"]], [[], []], [1.0, 1.0]]
        for actions in wrong:
            self.check(-1, -1, actions, [[SHUT]])

    def test_one_to_eight_actions(self):
        for many in range(1, 9):
            names = list("abcdefgh")[:many]
            self.assertEqual(Plan(names, [[SHUT] * many]).action_list(), names)

    def test_longest_names(self):
        names = ["abcdefgh", "abcdefgi"]
        self.assertEqual(Plan(names, [[SHUT, SHUT]]).action_list(), names)

    def test_wrong_rooms(self):
        for rows in (None, True, 1, 1.5, "a", ([SHUT],), {0: [SHUT]}, {}, (), [], object(), iter([[SHUT]])):
            self.check(-1, -1, ["a"], rows)

    def test_most_rooms(self):
        for kind in (Draft, Plan):
            thing = kind(["a"], [[must(1999)] for room in range(2000)])
            self.assertEqual(thing.many(), 2000)
            self.assertEqual(thing.door(1999, 0).to, 1999)
        self.check(-1, -1, ["a"], [[must(0)] for room in range(2001)])
        self.check(-1, -1, ["a"], [None] * 2001)
        self.check(0, -1, ["a"], [None] * 2000)

    def test_wrong_room(self):
        for row in (None, True, 2, "ab", (SHUT, SHUT), {0: SHUT, 1: SHUT}, [], [SHUT], [SHUT, SHUT, SHUT], object()):
            self.check(0, -1, ["a", "b"], [row])
            self.check(1, -1, ["a", "b"], [[SHUT, SHUT], row, [SHUT, SHUT]])
            self.check(2, -1, ["a", "b"], [[SHUT, SHUT], [SHUT, SHUT], row])

    def wrong_doors(self):
        wrong = [None, True, 0, "must", "shut", 1.5, object(), AlwaysEqual(), {}, {"must": 0}, b"may"]
        wrong += [["must", 0], ["may", 0], ["shut", None], ["torn", None], [], (), ("must",), ("shut",), ("torn",)]
        wrong += [("must", 0, 0), ("shut", None, None), ("may", 0, None), ((), ()), (0, "must"), (None, "shut")]
        wrong += [("Must", 0), ("MAY", 0), ("open", 0), ("", 0), ("", None), ("must ", 0), ("shut\n", None)]
        wrong += [(None, None), (None, 0), (0, 0), (b"must", 0), (["must"], 0), ({}, None), (AlwaysEqual(), 0)]
        wrong += [(AlwaysEqual(), None), (("must",), 0), (True, None)]
        for word in ("must", "may"):
            for to in (None, True, False, -1, 3, 2000, 10 ** 30, 0.0, 1.0, "0", "", [0], (0,), {}, AlwaysEqual()):
                wrong.append((word, to))
        for word in ("shut", "torn"):
            for to in (0, 1, -1, 3, False, True, "", "None", 0.0, [], (), [None], AlwaysEqual()):
                wrong.append((word, to))
        return wrong

    def test_wrong_door(self):
        for door in self.wrong_doors():
            self.check(0, 0, ["a", "b"], [[door, SHUT], [SHUT, SHUT], [SHUT, SHUT]])
            self.check(1, 1, ["a", "b"], [[SHUT, SHUT], [SHUT, door], [SHUT, SHUT]])
            self.check(2, 0, ["a", "b"], [[must(2), may(0)], [SHUT, SHUT], [door, SHUT]])

    def test_every_room_may_be_led_to(self):
        rows = [[must(to), may(to)] for to in range(3)]
        self.assertEqual(Plan(["a", "b"], rows).told(), rows)

    def test_torn_door(self):
        rows = [[SHUT, SHUT], [must(0), TORN]]
        self.assertEqual(Draft(["a", "b"], rows).told(), rows)
        self.check(1, 1, ["a", "b"], rows, (Plan,))
        self.check(0, 0, ["a"], [[TORN]], (Plan,))

    def test_first_of_several(self):
        names = ["a", "b"]
        good = [SHUT, SHUT]
        bad = ("must", 9)
        self.check(-1, -1, [], [])
        self.check(-1, -1, ["a", "a"], [good, [bad, bad]])
        self.check(-1, -1, None, [None])
        self.check(-1, -1, names, [None] * 2001)
        self.check(0, -1, names, [[bad], [bad, bad]])
        self.check(0, -1, names, [[SHUT], None])
        self.check(0, -1, names, [[bad, bad, bad]])
        self.check(0, 0, names, [[bad, bad], None])
        self.check(0, 1, names, [[SHUT, bad], [bad, bad]])
        self.check(1, -1, names, [good, None, [bad, bad]])
        self.check(1, 0, names, [good, [bad, SHUT], [SHUT], None])

    def test_torn_stands_in_the_same_order(self):
        names = ["a", "b"]
        self.check(0, 1, names, [[SHUT, TORN], None], (Plan,))
        self.check(1, -1, names, [[SHUT, TORN], None], (Draft,))
        self.check(0, 0, names, [[TORN, ("must", 9)]], (Plan,))
        self.check(0, 1, names, [[TORN, ("must", 9)]], (Draft,))
        self.check(0, 0, names, [[("must", 9), TORN]])
        self.check(0, -1, names, [[TORN], [TORN, TORN]])

    def test_a_list_that_holds_itself(self):
        rows = []
        rows.append(rows)
        self.check(0, 0, ["a"], rows)

    def test_what_is_refused_is_not_changed(self):
        rows = [[SHUT, must(0)], [may(5), TORN]]
        kept = copy.deepcopy(rows)
        self.check(1, 0, ["a", "b"], rows)
        self.assertEqual(rows, kept)


class BegunTest(unittest.TestCase):
    def test_begun_at_each_room(self):
        rows = {
            0: PLAN_ROWS,
            1: [
                [SHUT, may(2), must(1)],
                [must(0), may(1), SHUT],
                [may(2), SHUT, SHUT],
                [must(1), must(3), may(0)],
            ],
            2: [
                [may(0), SHUT, SHUT],
                [must(2), may(1), SHUT],
                [SHUT, may(0), must(1)],
                [must(1), must(3), may(2)],
            ],
            3: [
                [must(1), must(0), may(2)],
                [must(2), may(1), SHUT],
                [SHUT, may(3), must(1)],
                [may(3), SHUT, SHUT],
            ],
        }
        plan = Plan(ACTIONS, PLAN_ROWS)
        for room in rows:
            other = begun(plan, room)
            self.assertIsInstance(other, Plan)
            self.assertEqual(other.action_list(), ACTIONS)
            self.assertEqual(other.told(), rows[room], room)
        self.assertEqual(plan.told(), PLAN_ROWS)

    def test_a_ring_of_rooms(self):
        many = 5
        plan = Plan(["a", "b"], [[must((room + 1) % many), may(room)] for room in range(many)])
        for room in range(many):
            order = [room] + [other for other in range(many) if other != room]
            told = begun(plan, room).told()
            for new, old in enumerate(order):
                self.assertEqual(told[new], [must(order.index((old + 1) % many)), may(new)])

    def test_one_room(self):
        self.assertEqual(begun(Plan(["a"], [[must(0)]]), 0).told(), [[must(0)]])


class FreePlanTest(unittest.TestCase):
    def test_free_plan(self):
        for names in (["a"], ["open", "send"], list("hgfedcba")):
            plan = free_plan(names)
            self.assertIsInstance(plan, Plan)
            self.assertEqual(plan.action_list(), names)
            self.assertEqual(plan.told(), [[may(0)] * len(names)])

    def test_the_list_handed_in_may_be_changed(self):
        names = ["a", "b"]
        plan = free_plan(names)
        self.assertEqual(names, ["a", "b"])
        names.append("c")
        self.assertEqual(plan.action_list(), ["a", "b"])

    def test_what_is_refused(self):
        wrong = [None, 3, True, "a", ("a",), {"a": 1}, [], list("abcdefghi"), ["a", "a"], ["A"], [""], ["abcdefghi"]]
        for actions in wrong + [[None], [1], [["a"]], object()]:
            with self.assertRaises(BadPlan) as taken:
                free_plan(actions)
            self.assertEqual((taken.exception.room, taken.exception.action), (-1, -1))


class NeedSameTest(unittest.TestCase):
    def plan(self, names):
        return Plan(names, [[SHUT] * len(names)])

    def test_equal_lists(self):
        for names in (["a"], ["a", "b"], list("abcdefgh")):
            self.assertIsNone(need_same(self.plan(names), free_plan(list(names))))

    def test_one_and_the_same_plan(self):
        plan = free_plan(["a", "b"])
        self.assertIsNone(need_same(plan, plan))

    def test_lists_that_are_not_equal(self):
        wrong = [["a"], ["a", "b", "c"], ["a", "c"], ["b", "a"], ["c", "b"], ["d"], ["x", "a", "b"]]
        one = self.plan(["a", "b"])
        for names in wrong:
            with self.assertRaises(Unlike):
                need_same(one, self.plan(names))
            with self.assertRaises(Unlike):
                need_same(self.plan(names), one)


if __name__ == "__main__":
    unittest.main()
