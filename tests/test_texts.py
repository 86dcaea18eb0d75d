import random
import re
import unittest

from mustmay.errors import HallError, NoText
from mustmay.plans import Plan
from mustmay.texts import plan_text, read_plan
from samples import SHUT, all_plans, may, must, plan_of, some_plans

EXAMPLE = "actions open send\nidle: open must busy, send may idle\nbusy:"
EXAMPLE_ROWS = [[must(1), may(0)], [SHUT, SHUT]]

NAME = "[a-z][a-z0-9]{0,7}"
DOOR = "[a-z]{1,8} (?:must|may) " + NAME


def line_of_fault(text):
    """What promise 23 says, by patterns: the line that cannot stand, or None."""
    lines = text.split("\n")
    if not re.fullmatch("actions(?: [a-z]{1,8}){1,8}", lines[0]):
        return 0
    actions = lines[0].split(" ")[1:]
    if len(set(actions)) < len(actions):
        return 0
    if len(lines) == 1:
        return 1
    names = [line[:line.index(":")] for line in lines[1:] if ":" in line]
    earlier = []
    for number, line in enumerate(lines[1:], start=1):
        if not re.fullmatch(f"{NAME}:(?: {DOOR}(?:, {DOOR})*)?", line):
            return number
        name, rest = line.split(":")
        told = [door.split(" ") for door in rest[1:].split(", ") if door]
        used = [door[0] for door in told]
        if name in earlier or len(set(used)) < len(used) or not set(used) <= set(actions):
            return number
        if not all(door[2] in names for door in told):
            return number
        earlier.append(name)
    return None


class ReadTest(unittest.TestCase):
    def check(self, text, actions, rows):
        plan = read_plan(text)
        self.assertIsInstance(plan, Plan)
        self.assertEqual(plan.action_list(), actions)
        self.assertEqual(plan.told(), rows)

    def test_the_example(self):
        self.check(EXAMPLE, ["open", "send"], EXAMPLE_ROWS)

    def test_one_room(self):
        self.check("actions a\nx:", ["a"], [[SHUT]])
        self.check("actions a\nx: a must x", ["a"], [[must(0)]])
        self.check("actions a\nx: a may x", ["a"], [[may(0)]])

    def test_rooms_without_doors(self):
        self.check("actions a b\nx:\ny:\nz:", ["a", "b"], [[SHUT, SHUT]] * 3)

    def test_several_rooms_in_the_order_of_the_lines(self):
        text = "actions a b\nz: a may y\ny: b must x\nx: a must z, b may z"
        self.check(text, ["a", "b"], [[may(1), SHUT], [SHUT, must(2)], [must(0), may(0)]])

    def test_doors_in_any_order(self):
        rows = [[must(0), may(1), must(1)], [SHUT, SHUT, SHUT]]
        doors = ["a must x", "b may y", "c must y"]
        for order in ([0, 1, 2], [0, 2, 1], [1, 0, 2], [1, 2, 0], [2, 0, 1], [2, 1, 0]):
            line = "x: " + ", ".join(doors[place] for place in order)
            self.check("actions a b c\n" + line + "\ny:", ["a", "b", "c"], rows)

    def test_actions_keep_their_order(self):
        self.check("actions b a\nx: a must x", ["b", "a"], [[SHUT, must(0)]])

    def test_words_as_names(self):
        text = "actions actions must may\nactions: actions must must, must may may, may must actions\nmust:\nmay:"
        rows = [[must(1), may(2), must(0)], [SHUT] * 3, [SHUT] * 3]
        self.check(text, ["actions", "must", "may"], rows)
        self.check("actions may\nmust: may may must", ["may"], [[may(0)]])
        self.check("actions must\nmay: must must may", ["must"], [[must(0)]])
        self.check("actions actions\nactions:", ["actions"], [[SHUT]])

    def test_a_room_with_the_name_of_an_action(self):
        self.check("actions a b\na: a must b\nb: b may a", ["a", "b"], [[must(1), SHUT], [SHUT, may(0)]])

    def test_names_of_rooms(self):
        for name in ("a", "z", "a0", "z9", "abcdefgh", "a1234567", "r0", "z99z99z9", "q1w2e3r4"):
            self.check(f"actions a\n{name}: a may {name}", ["a"], [[may(0)]])

    def test_eight_actions(self):
        names = ["a", "bb", "ccc", "dddd", "eeeee", "ffffff", "ggggggg", "hhhhhhhh"]
        doors = ", ".join(f"{name} must x" for name in reversed(names))
        self.check("actions " + " ".join(names) + "\nx: " + doors, names, [[must(0)] * 8])

    def test_two_reads_share_nothing(self):
        one = read_plan(EXAMPLE)
        one.told()[0][0] = SHUT
        one.action_list().append("more")
        self.check(EXAMPLE, ["open", "send"], EXAMPLE_ROWS)
        self.assertEqual(one.told(), EXAMPLE_ROWS)


class WriteTest(unittest.TestCase):
    def test_the_example(self):
        text = "actions open send\nr0: open must r1, send may r0\nr1:"
        self.assertEqual(plan_text(Plan(["open", "send"], EXAMPLE_ROWS)), text)

    def test_one_room(self):
        self.assertEqual(plan_text(plan_of([[SHUT]])), "actions a\nr0:")
        self.assertEqual(plan_text(plan_of([[SHUT, may(0)]])), "actions a b\nr0: b may r0")

    def test_doors_in_the_order_of_the_actions(self):
        plan = read_plan("actions b a c\nx: a must y, c may x, b must y\ny: c must y, b may x")
        text = "actions b a c\nr0: b must r1, a must r1, c may r0\nr1: b may r0, c must r1"
        self.assertEqual(plan_text(plan), text)

    def test_numbers_of_rooms(self):
        text = plan_text(plan_of([[may((room + 1) % 12)] for room in range(12)]))
        lines = text.split("\n")
        self.assertEqual(lines[10], "r9: a may r10")
        self.assertEqual(lines[11], "r10: a may r11")
        self.assertEqual(lines[12], "r11: a may r0")
        self.assertEqual(len(lines), 13)

    def test_rooms_that_no_row_comes_to_are_written(self):
        self.assertEqual(plan_text(plan_of([[SHUT], [must(1)]])), "actions a\nr0:\nr1: a must r1")

    def test_written_read_and_written_again(self):
        for plan in all_plans(2, 1) + all_plans(1, 2) + some_plans(24, 60, 12, 3) + some_plans(25, 10, 30, 8):
            text = plan_text(plan)
            again = read_plan(text)
            self.assertEqual(again.action_list(), plan.action_list())
            self.assertEqual(again.told(), plan.told())
            self.assertEqual(plan_text(again), text)

    def test_a_plan_of_most_rooms(self):
        plan = plan_of([[must((room + 7) % 2000)] + [may(1999 - room)] * 7 for room in range(2000)])
        text = plan_text(plan)
        self.assertEqual(text.split("\n")[2000][:23], "r1999: a must r6, b may")
        self.assertEqual(read_plan(text).told(), plan.told())
        self.assertEqual(plan_text(read_plan(text)), text)


class NoTextTest(unittest.TestCase):
    def check(self, text, line):
        with self.assertRaises(NoText) as taken:
            read_plan(text)
        self.assertEqual(taken.exception.line, line, repr(text))
        self.assertIsInstance(taken.exception.line, int)
        self.assertIsInstance(taken.exception, HallError)
        self.assertEqual(line_of_fault(text), line, repr(text))

    def test_first_lines_that_cannot_stand(self):
        wrong = ["", " ", "actions", "actions ", "actions  a", " actions a", "actions a ", "actions a  b", "action a"]
        wrong += ["Actions a", "actionsa", "a", "a b", "x:", "x: a must x", "actions: a", "actions a, b", "actions a,b"]
        wrong += ["actions A", "actions a1", "actions 1", "actions abcdefghi", "actions a b c d e f g h i"]
        wrong += ["actions a a", "actions a b a", "actions a\tb", "actions\ta", "\tactions a", "actions a\t", "actions a:"]
        wrong += ["actions actions actions", "actions \u00e4", "actions a\r", "actions a\u2028", "actions\u00a0a"]
        for line in wrong:
            self.check(line, 0)
            self.check(line + "\nx:", 0)
            self.check(line + "\nx: b must y\n\n", 0)

    def test_no_line_behind_the_first_one(self):
        self.check("actions a", 1)
        self.check("actions a b c d e f g h", 1)

    def test_the_text_without_signs(self):
        self.check("", 0)

    def test_lines_without_signs(self):
        self.check("\n", 0)
        self.check("\n\n", 0)
        self.check("\nactions a\nx:", 0)
        self.check("actions a\n", 1)
        self.check("actions a\n\nx:", 1)
        self.check("actions a\nx:\n", 2)
        self.check("actions a\nx:\n\ny:", 2)
        self.check("actions a\nx:\ny:\n\n", 3)
        self.check(EXAMPLE + "\n", 3)

    wrong_lines = [
        "x", "x y", ":", " :", "x :", " x:", "x: ", "x:  ", "x::", "x: :", "x:a must x", "x:  a must x", "x: a must x ",
        "x: a  must x", "x: a must  x", "x: a must x,b may x", "x: a must x,  b may x", "x: a must x , b may x",
        "x: a must x,", "x: a must x, ", "x: , a must x", "x: a must x, , b may x", "x: a must x,, b may x", "x: ,",
        "x: a", "x: a must", "x: must x", "x: a x", "x: a shut", "x: a shut x", "x: a torn x", "x: a Must x",
        "x: a musty x", "x: a must x b may x", "x: a must x; b may x", "x: a must x y", "x: a must x must x",
        "x: c must x", "x: a must x, c may x", "x: A must x", "x: x must x", "x: must must x",
        "x: a must x, a must x", "x: a must x, a may x", "x: a may x, b must x, a may y",
        "x: a must z", "x: a may nowhere", "x: a must x, b may z", "x: a must a", "x: b may b", "x: a must r0",
        "x: a must X", "x: a must 0", "x: a must 0x", "x: a must x:", "x: a must y:", "x: a must xxxxxxxxx",
        "x: a must actions", "X:", "0x:", "0:", "xX:", "x-y:", "x_y:", "abcdefghi:", "x y:", "x,:", "x.:", "\u00e4:",
        "x:\t", "x\t:", "\tx:", "x:\ta must x", "x: a\tmust x", "x: a must\tx", "x: a must x\t", "x: a must x,\tb may x",
        "x:\r", "x: a must x\r", "x:\u00a0a must x", "x: a must \u0661x", "x\u0662:", "x\u00b2:", "",
        "actions a b", "x: actions must x", "x: a must x, b", "x: a", "x: a must x, b may",
    ]

    def test_other_lines_that_cannot_stand(self):
        for line in self.wrong_lines:
            self.check("actions a b\n" + line + "\ny:", 1)
            self.check("actions a b\ny:\n" + line, 2)
            self.check("actions a b\ny: a may w\n" + line + "\nw: b must y", 2)

    def test_the_name_of_an_earlier_line(self):
        self.check("actions a\nx:\nx:", 2)
        self.check("actions a\nx: a may x\ny:\nx: a may y", 3)
        self.check("actions a\nx:\ny:\ny:\nx:", 3)

    def test_the_first_of_several(self):
        self.check("actions a a\nx\n", 0)
        self.check("actions a\nx: a must z\nx:", 1)
        self.check("actions a\nx: a must x\nx:\ny: b must y", 2)
        self.check("actions a\nx:\ny: b must y\nx:", 2)
        self.check("actions a\nx:\ny: a may z\n\n", 2)
        self.check("actions a\n\n\n", 1)

    def test_names_ahead_of_colons_in_lines_that_cannot_stand(self):
        for bad in ("y: b must y", "y:a", "y: ", "y: a may nowhere", "y:\t", "y::", "y: a must y, a must y"):
            self.check("actions a\nx: a must y\n" + bad, 2)
            self.check("actions a\nx: a may y\nz: a must y\n" + bad, 3)
        self.check("actions a\nx: a must y\nx: a must y\ny:", 2)
        self.check("actions a\nx: a must y\ny", 1)
        self.check("actions a\nx: a must y\n y:", 1)
        self.check("actions a\nx: a must y\ny : a must x", 1)
        self.check("actions a\nx: a must y\nz: y:", 1)
        self.check("actions a\nx: a must y\nz y:", 1)

    def test_a_name_ahead_of_a_colon_that_has_not_the_form_of_one(self):
        for name in ("Y", "0", "yyyyyyyyy", "y_", ""):
            self.check(f"actions a\nx: a must {name}\n{name}:", 1)

    def test_the_first_line_names_no_room(self):
        self.check("actions a\nx: a must actions", 1)
        self.check("actions:\nx: a must actions", 0)

    def test_changed_texts(self):
        chance = random.Random(23)
        start = "actions a b must\nx: a must y, b may x, must may z1\ny:\nz1: b must x, a may y\nb: must must b"
        self.assertIsNone(line_of_fault(start))
        parts = [" ", "\n", ":", ",", ", ", "a", "b", "x", "y", "z1", "must", "may", "1", "X", "\t", "", "actions", "y:"]
        stood = 0
        for time in range(6000):
            text = start
            for change in range(chance.randint(1, 3)):
                at = chance.randrange(len(text) + 1)
                text = text[:at] + chance.choice(parts) + text[at + chance.randint(0, 2):]
            line = line_of_fault(text)
            if line is None:
                stood += 1
                self.assertEqual(read_plan(plan_text(read_plan(text))).told(), read_plan(text).told())
            else:
                self.check(text, line)
        self.assertGreater(stood, 20)

    def test_a_text_as_long_as_may_be(self):
        lines = ["actions a"] + [f"r{room}:" for room in range(2000)]
        text = "\n".join(lines)
        self.assertEqual(read_plan(text).many(), 2000)
        self.check(text + ":", 2000)
        self.check("a" * 20000, 0)
        self.check("actions a\n" + ":" * 19000, 1)
        self.check("actions a\nx:" + " a must x," * 1900, 1)


if __name__ == "__main__":
    unittest.main()
