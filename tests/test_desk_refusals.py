"""Promise 87: what a desk refuses, in which order, and that nothing changes behind it."""

import itertools
import unittest

from mustmay.desk import Desk
from mustmay.errors import BadPlan, HallError, InUse, NameThere, NoLine, NoName, NoText, NoWish, TooMany

NOTHING = "never a and always a"
LINE = "; ".join([f"r{room}: a may r{room + 1}" for room in range(24)] + ["r24:"])
BEGINNING = (
    "plan p x: a must y, b may x; y:",
    f"plan big {LINE}",
    "wish w never a after b",
    f"wish n {NOTHING}",
    "meet m p w",
    "meet mm big big",
    "over o m p",
    "plan free x:",
    "claim within m p",
    "claim alike w w",
    "claim some mm",
    "unclaim 2",
)
# One of each line, all words in their places.
RIGHT = (
    "plan new x: a must x", "change p x: a must x", "wish new never a", "door p r0 a must r1", "door p r0 a may r1",
    "door p r0 a shut", "meet new p w", "beside new p w", "over new p w", "drop free", "names", "show p", "within p w",
    "alike p w", "hall p w", "after p a b", "claim within p w", "claim alike p w", "claim some p", "claims", "unclaim 1",
)
NO_NAMES = ("", "P", "p1", "pppppppppp", "p-", "r0", "2", "Big", "p.", "m,")


def begun():
    desk = Desk(["a", "b"])
    for line in BEGINNING:
        desk.say(line)
    return desk


def all_answers(desk):
    """All that a desk answers, and what the next claim's number is."""
    names = desk.say("names").split(" ")
    lines = ["names", "claims"] + [f"show {name}" for name in names]
    lines += [f"after {name} a b" for name in names]
    for word, one, other in itertools.product(("within", "alike", "hall"), names, names):
        lines.append(f"{word} {one} {other}")
    found = []
    for line in lines + ["claim some p"]:
        try:
            found.append(desk.say(line))
        except TooMany:
            found.append("refused")
    return found


class RefusalTest(unittest.TestCase):
    def setUp(self):
        self.desk = begun()

    def refused(self, said, refusal, **fields):
        with self.assertRaises(HallError) as caught:
            self.desk.say(said)
        self.assertEqual((type(caught.exception), vars(caught.exception)), (refusal, fields), said)

    # Behind all that was refused the desk answers as one that was never asked for it.
    def tearDown(self):
        self.assertEqual(all_answers(self.desk), all_answers(begun()))


class NoLineTest(RefusalTest):
    def test_none_of_these(self):
        for line in ("", " ", "p", "help", "Plan q x:", "NAMES", "name", "claims?", "plan", "change", "wish", "door",
                     "meet", "beside", "over", "drop", "show", "within", "alike", "hall", "after", "claim", "unclaim",
                     "plans q x:", "must", "ok", "planq x:", "some p", "claimwithin p w", "NAME", "show NAME", "NEW"):
            self.refused(line, NoLine)

    def test_more_and_fewer_words(self):
        for line in RIGHT:
            words = line.split(" ")
            if words[0] not in ("plan", "change", "wish"):
                if words[0] != "after":
                    self.refused(" ".join(words + ["a"]), NoLine)
                    self.refused(" ".join(words + ["p"]), NoLine)
                for many in range(len(words)):
                    if words[:many] != ["after", "p", "a"]:
                        self.refused(" ".join(words[:many]), NoLine)

    def test_blanks(self):
        for line in RIGHT:
            self.refused(" " + line, NoLine)
            words = line.split(" ")
            texts = words[0] in ("plan", "change", "wish")
            if not texts:
                self.refused(line + " ", NoLine)
            for place in range(1, 2 if texts else len(words)):
                self.refused(" ".join(words[:place] + [""] + words[place:]), NoLine)
        for line in ("plan  new x:", "change  p x:", "wish  new never a", "plan ", "plan  ", "wish ", "change ", "names "):
            self.refused(line, NoLine)

    def test_lines_that_end_with_the_name(self):
        for line in ("plan new", "change p", "wish new", "plan p", "wish p", "change new", "change w"):
            self.refused(line, NoLine)

    def test_other_signs(self):
        for line in RIGHT:
            for sign in ("\t", "\n", "\r", "\x00", "\x7f", "\xe4", "\u0661"):
                self.refused(line + sign, NoLine)
                self.refused(sign + line, NoLine)
                self.refused(line.replace(" ", sign, 1) if " " in line else sign, NoLine)
        # A line feed is none between two rooms here.
        for line in ("plan new x:\ny:", "plan new x:; y:\n", "change p x:\ny:", "wish new never a\nand never b"):
            self.refused(line, NoLine)

    def test_no_name_where_a_name_is_wanted(self):
        for name in NO_NAMES:
            lines = ["plan {} x:", "change {} x:", "wish {} never a", "door {} r0 a shut", "door {} r0 a must r0", "meet {} p w",
                     "meet new {} w", "meet new p {}", "beside {} p w", "beside new {} w", "beside new p {}", "over {} p w",
                     "over new {} w", "over new p {}", "drop {}", "show {}", "within {} p", "within p {}", "alike {} p",
                     "alike p {}", "hall {} p", "hall p {}", "after {} a", "claim within {} p", "claim within p {}",
                     "claim alike {} p", "claim alike p {}", "claim some {}"]
            for line in lines:
                self.refused(line.replace("{}", name), NoLine)

    def test_no_action_of_the_desk(self):
        for action in ("c", "A", "", "ab", "0", "p", "r0"):
            for line in ("door p r0 {} must r0", "door p r0 {} may r0", "door p r0 {} shut", "after p {}", "after p {} a",
                         "after p a {}", "after p a {} b"):
                self.refused(line.replace("{}", action), NoLine)

    def test_no_room(self):
        for room in ("0", "r", "r00", "r01", "r0012", "r12345", "r10000", "R0", "s0", "r-1", "r+1", "r1.", "ra", "x", "", "rr0", "r0r",
                     "r 0", "r1a", "r0x1", "00"):
            for line in ("door p {} a shut", "door p {} a must r0", "door p {} a may r0", "door p r0 a must {}", "door p r0 a may {}"):
                self.refused(line.replace("{}", room), NoLine)

    def test_no_number(self):
        for number in ("", "r1", "01", "00", "001", "12345", "10000", "-1", "+1", "1.", "one", "a", "1a", "0x1", "1 "):
            self.refused(f"unclaim {number}", NoLine)

    def test_another_word_than_told(self):
        for line in ("door p r0 a torn", "door p r0 a Must r0", "door p r0 a shut r0", "door p r0 a must", "door p r0 a may",
                     "door p r0 a r0", "door p r0 a will r0", "door p r0 a shuts", "claim p", "claim p w", "claim some p w",
                     "claim within p", "claim alike w", "claim hall p w", "claim none p", "claim Some p", "claim over p w",
                     "claim names", "claim claims p w"):
            self.refused(line, NoLine)

    def test_ahead_of_all_else(self):
        # A name that is there, or is not there, a text that cannot be read, beside a line without its form.
        for line in ("meet p q r extra", "meet p q R", "meet P nope nope", "plan p", "change nope", "wish p", "door nope r0 c shut",
                     "door nope r01 a shut", "door p r99 c must r99", "door p r99 a must r099", "drop p w", "drop Nope",
                     "unclaim 012345", "after nope c", "after nope", "claim some", "within nope", "show mm mm", "hall mm Mm"):
            self.refused(line, NoLine)


class NameTest(RefusalTest):
    def test_name_there(self):
        for name in ("p", "w", "n", "m", "mm", "o", "big"):
            for line in ("plan {} x:", "wish {} never a", "meet {} p w", "beside {} p w", "over {} p w", "meet {} {} {}"):
                self.refused(line.replace("{}", name), NameThere, name=name)

    def test_name_there_ahead_of_what_follows(self):
        for line in ("plan p ", "plan p x", "plan p x: c must x", "wish p ", "wish p never", "wish p never c", "meet p q r",
                     "beside p p q", "over p q p", "plan p x: a must nope"):
            self.refused(line, NameThere, name="p")

    def test_no_name(self):
        for line in ("change q x:", "door q r0 a shut", "door q r0 a must r0", "meet new q p", "meet new p q", "meet new q r",
                     "beside new q p", "beside new p q", "over new q r", "over new p q", "drop q", "show q", "within q p",
                     "within p q", "within q r", "alike q p", "alike p q", "hall q p", "hall p q", "after q a", "after q a b",
                     "claim within q p", "claim within p q", "claim within q r", "claim alike q p", "claim alike p q",
                     "claim some q"):
            self.refused(line, NoName, name="q")

    def test_the_name_to_be_kept_is_not_there_yet(self):
        for line in ("meet q q p", "meet q p q", "meet q q q", "beside q q w", "over q w q"):
            self.refused(line, NoName, name="q")

    def test_no_plan_that_was_told_by_plan_or_change(self):
        for name in ("w", "n", "m", "mm", "o", "nope"):
            for line in ("change {} x:", "change {} ", "change {} nonsense", "door {} r0 a shut", "door {} r99 a must r99"):
                self.refused(line.replace("{}", name), NoName, name=name)

    def test_no_name_ahead_of_what_follows(self):
        for line in ("change q ", "change q x: c must x", "door q r99 a shut", "within mm q", "within q mm", "hall big q",
                     "alike mm q", "hall q big"):
            self.refused(line, NoName, name="q")

    def test_a_claim_that_does_not_stand(self):
        for number in ("0", "2", "4", "10", "9999", "1000"):
            self.refused(f"unclaim {number}", NoName, name=number)

    def test_in_use(self):
        # Made of, by meet and over; spoken of by a claim; both.
        for name in ("w", "big", "mm", "m", "p"):
            self.refused(f"drop {name}", InUse, name=name)


class TextTest(RefusalTest):
    def test_lines_of_texts_are_counted_behind_one_of_the_actions(self):
        wrong = (
            ("", 1), (" ", 1), ("x", 1), ("x: ", 1), (":", 1), ("X:", 1), ("x:;", 1), ("x: a must x;", 1), ("x: c must x", 1),
            ("x: a must y", 1), ("x: a shut", 1), ("x: a shut x", 1), ("x:  a must x", 1), ("x: a must x,b may x", 1),
            ("x: a must x, a may x", 1), (" x:", 1), ("x: a must x ", 1), ("; x:", 1), ("x:;y:", 1), ("x: y:", 1),
            ("x:; ", 2), ("x:; y", 2), ("x:;  y:", 2), ("x:; x:", 2), ("x:; y: a must z", 2), ("x:; y:; ", 3), ("x:; y:; y: b may x", 3),
            ("x: a must y; y: b may z; z: b may u", 3), ("x:; ; y:", 2), ("x: a must y; x", 1), ("actions a b; x:", 1),
            ("x:; y: a may x; z: A may x", 3), ("longnamed:", 1), ("x: a must longnamed; longnamed:", 1), ("x:; 1x:", 2),
        )
        for text, line in wrong:
            self.refused(f"plan new {text}", NoText, line=line)
            self.refused(f"change p {text}", NoText, line=line)

    def test_all_signs_of_a_line(self):
        # From the blank to the tilde: they are signs of a line, though no text has some of them.
        signs = "".join(map(chr, range(32, 127)))
        for text in (signs, "~", "!", signs[::-1]):
            self.refused(f"plan new {text}", NoText, line=1)
            self.refused(f"change p x:; {text}", NoText, line=2)
        for text in (signs[1:], "~", "!"):
            self.refused(f"wish new {text}", NoWish, place=0)

    def test_the_word_actions_may_name_a_room(self):
        desk = begun()
        self.assertEqual(desk.say("plan new actions: a must actions"), "ok")
        self.assertEqual(desk.say("show new"), "r0: a must r0")

    def test_wishes(self):
        for text, place in (("", 0), (" ", 0), ("never", 1), ("never ", 1), ("never c", 1), (" never a", 0), ("never  a", 1),
                            ("never a ", 2), ("never a or never b", 2), ("never a and", 3), ("at most 7 a", 2), ("next a", 2),
                            ("never a after a", 3), ("never a and never a and never a and never a", 8), ("always a; always b", 1),
                            (f"{NOTHING} and", 6), ("x: a must x", 0)):
            self.refused(f"wish new {text}", NoWish, place=place)

    def test_doors(self):
        for room in (2, 3, 10, 99, 9999):
            self.refused(f"door p r{room} a shut", BadPlan, room=room, action=-1)
            self.refused(f"door p r{room} b must r0", BadPlan, room=room, action=-1)
            # The first that is wrong is told.
            self.refused(f"door p r{room} b may r{room + 1 if room < 9999 else room}", BadPlan, room=room, action=-1)
            self.refused(f"door p r0 a must r{room}", BadPlan, room=0, action=0)
            self.refused(f"door p r1 b may r{room}", BadPlan, room=1, action=1)
            self.refused(f"door big r24 b must r{room + 24 if room < 9000 else room}", BadPlan, room=24, action=1)

    def test_doors_at_the_edge(self):
        desk = begun()
        self.assertEqual(desk.say("door p r1 b must r1"), "ok")
        self.assertEqual(desk.say("show p"), "r0: a must r1, b may r0; r1: b must r1")


class BehindRefusalsTest(unittest.TestCase):
    def test_a_name_in_use_is_free_again(self):
        desk = begun()
        for line in ("drop o", "unclaim 1", "drop m", "drop p", "drop w", "unclaim 3", "drop mm", "drop big", "drop n", "drop free"):
            self.assertEqual(desk.say(line), "ok", line)
        self.assertEqual((desk.say("names"), desk.say("claims")), ("-", "-"))
        self.assertEqual(desk.say("wish p never b"), "ok")
        self.assertEqual((desk.say("show p"), desk.say("claim some p")), ("r0: a may r0", "4"))

    def test_a_name_spoken_of_by_one_claim_of_several(self):
        for claims in (("within p q", "within q p", "alike p q", "alike q p", "some p", "within p p")):
            desk = Desk(["a"])
            for line in ("plan p x:", "plan q x:", f"claim {claims}"):
                desk.say(line)
            with self.assertRaises(InUse):
                desk.say("drop p")
            self.assertEqual([desk.say("unclaim 1"), desk.say("drop p"), desk.say("names")], ["ok", "ok", "q"])

    def test_a_name_that_something_is_made_of_in_either_place(self):
        for work, pair in itertools.product(("meet", "beside", "over"), ("p q", "q p", "p p")):
            desk = Desk(["a"])
            for line in ("plan p x:", "plan q x:", f"{work} m {pair}"):
                desk.say(line)
            with self.assertRaises(InUse) as caught:
                desk.say("drop p")
            self.assertEqual(caught.exception.name, "p")
            self.assertEqual([desk.say("drop m"), desk.say("drop p"), desk.say("names")], ["ok", "ok", "q"])

    def test_a_change_that_is_refused_leaves_the_old_plan(self):
        desk = begun()
        before = desk.say("show p")
        for line in ("change p x: c must x", "change p ", "door p r0 a must r7"):
            with self.assertRaises(HallError):
                desk.say(line)
            self.assertEqual(desk.say("show p"), before)

    def test_questions_change_nothing(self):
        desk = begun()
        first = all_answers(desk)[:-1]
        self.assertEqual(desk.say("unclaim 4"), "ok")
        self.assertEqual(all_answers(desk)[:-1], first)

    def test_right_lines_are_done(self):
        for line in RIGHT:
            self.assertIs(type(begun().say(line)), str, line)


if __name__ == "__main__":
    unittest.main()
