"""What a desk answers; what it refuses is in test_desk_refusals.py."""

import itertools
import unittest

from mustmay.desk import Desk
from mustmay.division import over
from mustmay.errors import BadPlan, HallError, InUse, NoName, NoText, TooMany
from mustmay.halls import hall_apart, least_hall
from mustmay.least import least
from mustmay.meeting import met
from mustmay.sides import beside
from mustmay.wishes import wish
from samples import all_plans, plan_of, rooms_of, some_plans

WORDS_OF_A_DESK = (
    "plan", "change", "wish", "door", "meet", "beside", "over", "drop", "names", "show", "within", "alike", "hall",
    "after", "claim", "claims", "unclaim", "some", "must", "may", "shut", "ok", "nothing", "none",
)
NOTHING = "never a and always a"
# Two ways for each of 25 rooms, none of them alike to another one.
LINE = "; ".join([f"r{room}: a may r{room + 1}" for room in range(24)] + ["r24:"])


def desk_of(*lines, actions=("a", "b")):
    desk = Desk(list(actions))
    for line in lines:
        desk.say(line)
    return desk


class DeskTest(unittest.TestCase):
    def answers(self, desk, *pairs):
        for line, answer in pairs:
            told = desk.say(line)
            self.assertIs(type(told), str)
            self.assertEqual(told, answer, line)

    def refuses(self, desk, said, refusal, **fields):
        with self.assertRaises(refusal) as caught:
            desk.say(said)
        self.assertEqual(vars(caught.exception), fields, said)


class BegunTest(DeskTest):
    def test_an_empty_desk(self):
        self.answers(Desk(["a"]), ("names", "-"), ("claims", "-"))

    def test_what_is_no_list_of_actions(self):
        wrong = ([], ["a", "a"], ["A"], [""], ("a",), None, 3, "a", ["a", 3], list("abcdefghi"), ["abcdefghi"], ["a "])
        for actions in wrong:
            with self.assertRaises(BadPlan) as caught:
                Desk(actions)
            self.assertEqual((caught.exception.room, caught.exception.action), (-1, -1))
            self.assertIsInstance(caught.exception, HallError)

    def test_the_list_handed_in_stays_and_may_be_changed(self):
        actions = ["a", "b"]
        desk = Desk(actions)
        desk.say("plan p x: a must x, b may x")
        desk.say("wish w never a after b")
        desk.say("meet m p w")
        self.assertEqual(actions, ["a", "b"])
        actions[0] = "c"
        actions.append("d")
        self.answers(desk, ("show p", "r0: a must r0, b may r0"), ("after p a b", "may"), ("show m", "r0: a must r0"))
        desk.say("plan q x: a must x")
        self.refuses(desk, "plan d x: c must x", NoText, line=1)

    def test_two_desks_know_nothing_of_each_other(self):
        one, other = Desk(["a"]), Desk(["a"])
        one.say("plan p x:")
        one.say("claim some p")
        self.answers(other, ("names", "-"), ("claims", "-"))
        self.refuses(other, "show p", NoName, name="p")


class PlanTest(DeskTest):
    def test_plan_and_show(self):
        desk = desk_of(actions=("open", "send"))
        self.answers(
            desk,
            ("plan p idle: open must busy, send may idle; busy:", "ok"),
            ("show p", "r0: open must r1, send may r0; r1:"),
            ("plan q x:", "ok"),
            ("show q", "r0:"),
            ("plan s x: send must x, open may y; z: open may z; y:", "ok"),
            ("show s", "r0: open may r2, send must r0; r1: open may r1; r2:"),
            ("names", "p q s"),
        )

    def test_a_told_plan_is_shown_as_it_is(self):
        # Rooms that are alike, and rooms that no row comes to.
        desk = desk_of("plan p x: a may y; y: a may x; z: b must z")
        self.answers(desk, ("show p", "r0: a may r1; r1: a may r0; r2: b must r2"))
        for plan in all_plans(2, 1)[::3] + some_plans(130, 10, 6, 2):
            text = rooms_of(plan)
            desk = Desk(plan.action_list())
            self.answers(desk, (f"plan p {text}", "ok"), ("show p", text))

    def test_change(self):
        desk = desk_of("plan p x: a must x", "plan q x:")
        self.answers(
            desk,
            ("change p x:; y: b may x", "ok"),
            ("show p", "r0:; r1: b may r0"),
            ("change p z: a must z", "ok"),
            ("show p", "r0: a must r0"),
            ("show q", "r0:"),
            ("names", "p q"),
        )

    def test_doors(self):
        desk = desk_of("plan p x: a must y; y:")
        self.answers(
            desk,
            ("door p r0 a shut", "ok"), ("show p", "r0:; r1:"),
            ("door p r1 b may r0", "ok"), ("show p", "r0:; r1: b may r0"),
            ("door p r0 b must r1", "ok"), ("show p", "r0: b must r1; r1: b may r0"),
            ("door p r0 b must r0", "ok"), ("show p", "r0: b must r0; r1: b may r0"),
            ("door p r0 b may r0", "ok"), ("show p", "r0: b may r0; r1: b may r0"),
            ("door p r0 a shut", "ok"), ("show p", "r0: b may r0; r1: b may r0"),
        )

    def test_doors_of_a_changed_plan(self):
        desk = desk_of("plan p x:", "change p x:; y:", "door p r1 a may r0")
        self.answers(desk, ("show p", "r0:; r1: a may r0"), ("change p x: a may x", "ok"), ("door p r0 a shut", "ok"))

    def test_rooms_of_several_figures(self):
        text = "; ".join(f"r{room}:" for room in range(500))
        desk = desk_of(f"plan p {text}")
        self.assertLess(len(text), 4000)
        self.answers(desk, ("door p r0 a may r499", "ok"), ("door p r499 b must r10", "ok"), ("after p a b", "must"))
        self.assertTrue(desk.say("show p").startswith("r0: a may r499; r1:; "))
        self.assertTrue(desk.say("show p").endswith("; r498:; r499: b must r10"))

    def test_wishes(self):
        desk = desk_of()
        self.answers(
            desk,
            ("wish w never a after b", "ok"), ("show w", "r0: a may r0, b may r1; r1: b may r1"),
            (f"wish n {NOTHING}", "ok"), ("show n", "nothing"),
            ("wish wish at most 1 a and always b", "ok"), ("show wish", "r0: a may r1, b must r0; r1: b must r1"),
            ("names", "n w wish"),
        )

    def test_wishes_with_names_like_words(self):
        desk = desk_of("wish and never and after at and at most 2 at", actions=("at", "and"))
        told = wish(["at", "and"], "never and after at and at most 2 at")
        self.answers(desk, ("show and", rooms_of(told)), ("after and at and", "shut"), ("after and at at at", "shut"))

    def test_made_of_two_names(self):
        desk = desk_of("plan p x: a must y, b may x; y: b may y", "wish w never a after b")
        plan = plan_of([[("must", 1), ("may", 0)], [("shut", None), ("may", 1)]])
        other = wish(["a", "b"], "never a after b")
        self.answers(
            desk,
            ("meet m p w", "ok"), ("beside s p w", "ok"), ("over o w p", "ok"), ("over x p w", "ok"),
            ("show m", rooms_of(met(plan, other))),
            ("show s", rooms_of(beside(plan, other))),
            ("show o", rooms_of(over(other, plan))),
            ("show x", "nothing"),
            ("names", "m o p s w x"),
        )

    def test_made_of_all_small_plans(self):
        plans = all_plans(2, 1)
        desk = desk_of("plan p x:", "plan q x:", "meet m p q", "beside s p q", "over o p q", actions=("a",))
        for one, other in itertools.product(plans, repeat=2):
            desk.say(f"change p {rooms_of(one)}")
            desk.say(f"change q {rooms_of(other)}")
            self.answers(
                desk,
                ("show m", rooms_of(met(one, other))),
                ("show s", rooms_of(beside(one, other))),
                ("show o", rooms_of(over(one, other))),
            )

    def test_made_of_one_name_twice(self):
        desk = desk_of("plan p x: a may y; y: a may x", "meet m p p", "beside s m m", "over o p s")
        self.answers(desk, ("show m", "r0: a may r0"), ("show s", "r0: a may r0"), ("show o", "r0: a may r0, b may r0"))

    def test_made_anew_whenever_it_is_asked_for(self):
        desk = desk_of("plan p x: a may x", "plan q x: a must x", "meet m p q", "over o m q", "beside s o m")
        # Behind b, which q never does, all is free.
        division = "r0: a must r0, b may r1; r1: a may r1, b may r1"
        self.answers(desk, ("show m", "r0: a must r0"), ("show o", division), ("show s", "r0: a must r0"))
        desk.say("door q r0 a may r0")
        self.answers(desk, ("show m", "r0: a may r0"), ("show o", "r0: a may r0, b may r0"), ("show s", "r0: a may r0"))
        desk.say("change q x: a may x, b must x")
        self.answers(desk, ("show m", "nothing"), ("show o", "nothing"), ("show s", "nothing"))
        desk.say("change p x: b may x")
        self.answers(desk, ("show m", "r0: b must r0"), ("show o", "r0: b must r0"), ("show s", "r0: b must r0"))

    def test_a_long_chain(self):
        desk = desk_of("plan p x: a may x", "meet x p p")
        names = [f"n{one}{two}" for one, two in itertools.product("abcdef", repeat=2)]
        last = "x"
        for name in names:
            desk.say(f"meet {name} {last} {last}")
            last = name
        self.answers(desk, (f"show {last}", "r0: a may r0"), ("change p x: b must x", "ok"), (f"show {last}", "r0: b must r0"))

    def test_drop_and_names(self):
        desk = desk_of("plan b x:", "plan ab x:", "plan a x:", "plan abc x:", "plan ba x:")
        self.answers(
            desk,
            ("names", "a ab abc b ba"),
            ("drop ab", "ok"), ("names", "a abc b ba"),
            ("drop a", "ok"), ("drop ba", "ok"), ("drop abc", "ok"), ("names", "b"),
            ("drop b", "ok"), ("names", "-"),
        )

    def test_a_name_is_free_again(self):
        desk = desk_of("plan p x: a must x", "drop p")
        self.refuses(desk, "show p", NoName, name="p")
        self.answers(desk, ("wish p never a", "ok"), ("show p", "r0: b may r0"), ("drop p", "ok"))
        self.answers(desk, ("plan q x: a may x", "ok"), ("meet p q q", "ok"), ("show p", "r0: a may r0"), ("drop p", "ok"))
        self.answers(desk, ("plan p x:", "ok"), ("show p", "r0:"), ("door p r0 a must r0", "ok"), ("show p", "r0: a must r0"))

    def test_names_that_are_words_of_the_desk(self):
        desk = desk_of()
        for name in WORDS_OF_A_DESK:
            self.answers(desk, (f"plan {name} x: a must x", "ok"), (f"show {name}", "r0: a must r0"))
        self.answers(desk, ("names", " ".join(sorted(WORDS_OF_A_DESK))))
        for one, other in itertools.product(WORDS_OF_A_DESK, repeat=2):
            self.answers(desk, (f"within {one} {other}", "yes"), (f"hall {one} {other}", "none"), (f"alike {one} {other}", "yes"))
        self.answers(
            desk,
            ("door door r0 b may r0", "ok"), ("change change x: b must x", "ok"), ("meet a meet claim", "ok"),
            ("claim some claim", "1"), ("claim within some some", "2"), ("claims", "1 yes; 2 yes"),
            ("alike meet change", "no"), ("after after a a", "must"), ("drop drop", "ok"), ("within a claims", "yes"),
        )

    def test_actions_that_are_words_of_the_desk(self):
        desk = Desk(["must", "shut", "after", "nothing"])
        self.answers(
            desk,
            ("plan p x: must must x, shut may y; y: after may x", "ok"),
            ("door p r0 must must r1", "ok"), ("door p r0 after may r0", "ok"), ("door p r0 shut shut", "ok"),
            ("show p", "r0: must must r1, after may r0; r1: after may r0"),
            ("after p after after must", "must"), ("after p must shut", "shut"), ("after p shut must", "none"),
        )

    def test_what_is_answered_of_forty_names(self):
        desk = desk_of("plan p x: a may x, b may y; y: a must x", "wish w at most 3 b")
        names = [one + two for one in "efgh" for two in "abcdefghi"] + ["ra", "rb"]
        for place, name in enumerate(names):
            work = ("meet", "beside", "over")[place % 3]
            self.answers(desk, (f"{work} {name} {(['p'] + names)[place]} {(['w', 'p'] + names)[place]}", "ok"))
        self.assertEqual(desk.say("names"), " ".join(sorted(names + ["p", "w"])))
        self.assertEqual(len(desk.say("names").split(" ")), 40)
        for number, name in enumerate(names + ["p", "w"]):
            self.answers(desk, (f"claim {('within', 'alike')[number % 2]} {name} {names[number % 38]}", str(number + 1)))
        told = desk.say("claims").split("; ")
        self.assertEqual([claim.split(" ")[0] for claim in told], [str(number) for number in range(1, 41)])
        # Nothing is refused for one more.
        self.answers(desk, ("plan more x:", "ok"), ("claim some more", "41"))


class QuestionTest(DeskTest):
    def test_within(self):
        desk = desk_of("plan p x: a may x, b must x", "plan q x: a may x, b must y; y: a may x, b must z; z: a must z")
        self.answers(
            desk,
            ("within p p", "yes"), ("within q q", "yes"),
            ("within p q", "no lacks a behind b b"),
            ("within q p", "no lacks b behind b b"),
        )
        desk.say("plan r x: b must x")
        self.answers(desk, ("within p r", "no extra a behind"), ("within r p", "yes"), ("within r q", "no lacks a behind b b"))

    def test_within_tells_the_names_of_actions(self):
        desk = Desk(["send", "open", "stop"])
        desk.say("plan p x: open may y; y: send may x, stop may z; z: send may z, stop may z")
        desk.say("plan q x: open may y; y: send may x, stop may z; z: send may z")
        self.answers(desk, ("within p q", "no extra stop behind open stop"), ("within q p", "yes"))

    def test_alike(self):
        desk = desk_of("plan p x: a may x", "plan q x: a may y; y: a may x; z:", "plan r x: a must x")
        self.answers(desk, ("alike p q", "yes"), ("alike q p", "yes"), ("alike p p", "yes"), ("alike p r", "no"))
        # One is within the other, and that is not enough.
        self.answers(desk, ("within r p", "yes"), ("alike r p", "no"))

    def test_hall(self):
        desk = desk_of("plan p x: a may x, b may x", "plan q x: a may y; y: b may x")
        one, other = plan_of([[("may", 0), ("may", 0)]]), plan_of([[("may", 1), ("shut", None)], [("shut", None), ("may", 0)]])
        self.answers(desk, ("hall q p", "none"), ("hall p p", "none"), ("hall p q", rooms_of(hall_apart(one, other)[0])))
        self.answers(desk, ("hall p q", "r0: b must r1; r1:"))
        desk.say("change q x: a must x")
        self.answers(desk, ("hall p q", "r0:"), ("hall q p", "none"))

    def test_questions_of_small_plans(self):
        desk = desk_of("plan p x:", "plan q x:", actions=("a",))
        for one, other in itertools.product(all_plans(2, 1), repeat=2):
            desk.say(f"change p {rooms_of(one)}")
            desk.say(f"change q {rooms_of(other)}")
            apart = hall_apart(one, other)
            self.answers(desk, ("hall p q", "none" if apart is None else rooms_of(apart[0])))
            self.assertEqual(desk.say("within p q") == "yes", apart is None)
            if apart is not None:
                self.assertEqual(desk.say("within p q").split(" ")[2:], ["a", "behind"] + ["a"] * len(apart[1]))
            self.answers(desk, ("alike p q", "yes" if least(one).told() == least(other).told() else "no"))

    def test_after(self):
        desk = desk_of("plan p x: a must y, b may x; y: b may z; z:")
        self.answers(
            desk,
            ("after p a", "must"), ("after p b", "may"),
            ("after p a a", "shut"), ("after p a b", "may"), ("after p b b b a", "must"),
            ("after p a b a", "shut"), ("after p a b b", "shut"),
            ("after p a a a", "none"), ("after p a b b b", "none"), ("after p b a a b b", "none"),
        )

    def test_a_long_row(self):
        desk = desk_of("wish w at most 6 a")
        self.answers(desk, ("after w" + " b" * 1990 + " a", "may"), ("after w" + " a b" * 6 + " a", "shut"))

    def test_of_wishes_and_of_what_is_made(self):
        desk = desk_of("wish w never a after b", "plan p x: a may x, b may x", "meet m w p", "over o w p")
        self.answers(
            desk,
            ("within w p", "yes"), ("within p w", "no extra a behind b"), ("alike w m", "yes"), ("alike o w", "yes"),
            ("after m b a", "shut"), ("after o a b b", "may"), ("hall p m", "r0: b must r1; r1: a must r2; r2:"),
        )


class NothingTest(DeskTest):
    def desk(self):
        return desk_of(
            "plan p x: a must x, b may x", f"wish n {NOTHING}", "wish free at most 3 a", "change p x: a must x, b may x",
            "plan big " + LINE,
        )

    def test_made_with_nothing(self):
        desk = self.desk()
        for name, line in (("ma", "meet ma n p"), ("mb", "meet mb p n"), ("mc", "meet mc n n"), ("sa", "beside sa n p"),
                           ("sb", "beside sb p n"), ("sc", "beside sc n n"), ("oa", "over oa n p")):
            self.answers(desk, (line, "ok"), (f"show {name}", "nothing"), (f"alike {name} n", "yes"))
        for name, line in (("ob", "over ob p n"), ("oc", "over oc n n"), ("od", "over od big n"), ("oe", "over oe free n")):
            self.answers(desk, (line, "ok"), (f"show {name}", "r0: a may r0, b may r0"), (f"alike {name} n", "no"))

    def test_a_meeting_that_is_nothing(self):
        desk = desk_of("plan p x: a must x", "plan q x: b must x", "meet m p q", "over o p q", "meet mm m p", "over f p m")
        self.answers(
            desk, ("show m", "nothing"), ("show o", "nothing"), ("show mm", "nothing"), ("alike m o", "yes"),
            ("show f", "r0: a may r0, b may r0"),
        )

    def test_within(self):
        self.answers(
            self.desk(), ("within n p", "yes"), ("within n n", "yes"), ("within p n", "no nothing"),
            ("within free n", "no nothing"), ("within n big", "yes"),
        )

    def test_alike(self):
        self.answers(self.desk(), ("alike n n", "yes"), ("alike n p", "no"), ("alike p n", "no"), ("alike free n", "no"))

    def test_hall(self):
        desk = self.desk()
        self.answers(desk, ("hall n p", "none"), ("hall n n", "none"), ("hall p n", "r0: a must r0"), ("hall big n", "r0:"))
        desk.say("plan q x: a must y, b may z; y: a must x, b may z; z: b must z; u: a must u")
        self.answers(desk, ("hall q n", "r0: a must r0"))
        desk.say("change q x: a must y, b may x; y: b must x; z: a must z")
        self.answers(desk, ("hall q n", "r0: a must r1; r1: b must r0"))
        for plan in all_plans(2, 1) + some_plans(131, 20, 5, 2):
            desk = Desk(plan.action_list())
            self.answers(
                desk, (f"plan p {rooms_of(plan)}", "ok"), (f"wish n {NOTHING}", "ok"),
                ("hall p n", rooms_of(least(least_hall(plan)))),
            )

    def test_after(self):
        self.answers(self.desk(), ("after n a", "none"), ("after n b", "none"), ("after n a b a", "none"))

    def test_claims(self):
        desk = self.desk()
        for line in ("within n p", "within n n", "within p n", "alike n n", "alike n p", "alike p n", "some n", "some p"):
            desk.say(f"claim {line}")
        self.answers(desk, ("claims", "1 yes; 2 yes; 3 no; 4 yes; 5 no; 6 no; 7 no; 8 yes"))


class ClaimTest(DeskTest):
    def test_numbers(self):
        desk = desk_of("plan p x: a may x", "plan q x: a must x")
        self.answers(
            desk,
            ("claim within q p", "1"), ("claim alike q p", "2"), ("claim some p", "3"), ("claim within p q", "4"),
            ("claims", "1 yes; 2 no; 3 yes; 4 no"),
            ("unclaim 2", "ok"), ("claims", "1 yes; 3 yes; 4 no"),
            ("unclaim 4", "ok"), ("claim within p p", "5"), ("claims", "1 yes; 3 yes; 5 yes"),
            ("unclaim 1", "ok"), ("unclaim 3", "ok"), ("unclaim 5", "ok"), ("claims", "-"),
            ("claim some p", "6"), ("claims", "6 yes"),
        )

    def test_the_same_claim_twice(self):
        desk = desk_of("plan p x:")
        self.answers(desk, ("claim some p", "1"), ("claim some p", "2"), ("unclaim 1", "ok"), ("claims", "2 yes"))

    def test_behind_changes(self):
        desk = desk_of("plan p x: a may x", "plan q x: a must x", "meet m p q", "claim within q p", "claim alike m q", "claim some m")
        self.answers(
            desk,
            ("claims", "1 yes; 2 yes; 3 yes"),
            ("door p r0 a shut", "ok"), ("claims", "1 no; 2 no; 3 no"),
            ("door q r0 a shut", "ok"), ("claims", "1 yes; 2 yes; 3 yes"),
            ("change q x: b may x", "ok"), ("claims", "1 no; 2 no; 3 yes"),
            ("change p x: b may x", "ok"), ("claims", "1 yes; 2 yes; 3 yes"),
            ("change p x: b may y; y:", "ok"), ("claims", "1 no; 2 no; 3 yes"),
        )

    def test_ten_and_more_stand_by_their_numbers(self):
        desk = desk_of("plan p x:")
        for number in range(1, 13):
            self.answers(desk, ("claim some p", str(number)))
        self.answers(desk, ("claims", "; ".join(f"{number} yes" for number in range(1, 13))), ("unclaim 10", "ok"))
        self.refuses(desk, "unclaim 10", NoName, name="10")

    def test_a_refused_claim_takes_no_number(self):
        desk = desk_of("plan p x:")
        self.refuses(desk, "claim some q", NoName, name="q")
        self.refuses(desk, "claim within p q", NoName, name="q")
        self.answers(desk, ("claim some p", "1"))


class TooManyTest(DeskTest):
    # Two lines of 25 rooms: 625 pairs. Names made of them several steps off, one of them with nothing, and by over.
    def desk(self):
        desk = desk_of(f"plan p {LINE}", f"plan q {LINE}", f"wish n {NOTHING}", "plan s x: a may x")
        for line in ("meet m p q", "beside bs m s", "over o s bs", "meet mm n o", "over on n m", "over mo m n", "meet two s n"):
            self.answers(desk, (line, "ok"))
        return desk

    def test_the_lines_themselves_are_done(self):
        desk = self.desk()
        self.answers(desk, ("names", "bs m mm mo n o on p q s two"))

    def test_each_kind_of_question(self):
        desk = self.desk()
        for name in ("m", "bs", "o", "mm", "on", "mo"):
            for line in ("show {}", "after {} a", "after {} a b a", "within {} s", "within s {}", "within {} {}", "alike {} s",
                         "alike s {}", "alike {} {}", "hall {} s", "hall s {}", "hall {} {}", "within {} n", "within n {}",
                         "alike {} n", "alike n {}", "hall {} n", "hall n {}", "within two {}", "alike {} mm"):
                self.refuses(desk, line.replace("{}", name), TooMany)

    def test_other_questions_are_answered(self):
        desk = self.desk()
        self.answers(
            desk, ("show p", LINE), ("show two", "nothing"), ("alike p q", "yes"), ("within p s", "yes"),
            ("after p a a a", "may"), ("alike two n", "yes"),
        )

    def test_claims(self):
        desk = self.desk()
        for line in ("some m", "some s", "within n o", "within o n", "alike mm mm", "within two n", "some mo", "alike p q"):
            desk.say(f"claim {line}")
        told = "1 too many; 2 yes; 3 too many; 4 too many; 5 too many; 6 yes; 7 too many; 8 yes"
        self.answers(desk, ("claims", told))

    def test_the_names_may_be_dropped_and_made_of(self):
        desk = self.desk()
        self.answers(desk, ("meet x mm o", "ok"), ("drop x", "ok"), ("drop mm", "ok"), ("drop o", "ok"), ("drop bs", "ok"))

    def test_answered_again_when_the_plans_are_small(self):
        desk = self.desk()
        self.answers(desk, ("claim some m", "1"), ("claim alike bs s", "2"), ("claims", "1 too many; 2 too many"))
        self.answers(desk, ("door p r22 a shut", "ok"), ("claims", "1 yes; 2 no"), ("show mm", "nothing"))
        # 23 rooms and 25 rooms: 575 pairs.
        self.answers(desk, ("after bs" + " a" * 22, "may"), ("after bs" + " a" * 23, "shut"), ("show on", "nothing"))
        self.answers(desk, ("show mo", "r0: a may r0, b may r0"))
        self.answers(desk, ("door p r22 a may r23", "ok"), ("claims", "1 too many; 2 too many"))
        self.answers(desk, ("change p x: a may x", "ok"), ("claims", "1 yes; 2 no"), ("alike m q", "yes"))
        self.answers(desk, ("change q x: a may x", "ok"), ("claims", "1 yes; 2 yes"), ("alike m q", "yes"))

    def test_the_least_plans_rooms_count(self):
        ring = "; ".join(f"r{room}: a may r{(room + 1) % 100}" for room in range(100))
        desk = desk_of(f"plan p {ring}", f"plan q {LINE}", "meet m p q", "beside s q p", "over o q p")
        self.answers(desk, ("show m", LINE), ("show s", LINE), ("alike m q", "yes"), ("after o" + " a" * 25, "shut"))

    def test_each_kind_of_making(self):
        for work in ("meet", "beside", "over"):
            desk = desk_of(f"plan p {LINE}", f"plan q {LINE}", f"{work} m p q", "claim some m")
            self.refuses(desk, "show m", TooMany)
            self.answers(desk, ("claims", "1 too many"))
            self.answers(desk, ("door q r23 a shut", "ok"), ("claims", "1 yes"))
            # 24 rooms and 25 rooms: just 600 pairs.
            self.assertEqual(desk.say("within m p"), "yes" if work != "over" else "no extra b behind")

    def test_a_question_for_a_hall(self):
        # Stage 4: n * m + n above 2,000.
        desk = desk_of(f"plan p {LINE}")
        for many, told in ((79, "r0: a must"), (80, None)):
            text = "; ".join([f"r{room}: b may r{room + 1}" for room in range(many - 1)] + [f"r{many - 1}: b must r0"])
            desk.say(f"plan q {text}")
            if told is None:
                self.refuses(desk, "hall p q", TooMany)
                # Within and alike are answered all the same.
                self.answers(desk, ("within p q", "no extra a behind"), ("alike p q", "no"))
            else:
                self.answers(desk, ("hall p q", "r0: a must r1; r1:"))
            desk.say("drop q")

    def test_a_question_for_a_hall_where_it_would_be_none(self):
        line = "; ".join([f"r{room}: a may r{room + 1}" for room in range(45)] + ["r45:"])
        desk = desk_of(f"plan p {line}", f"wish n {NOTHING}")
        # 46 * 46 + 46 is above 2,000; nothing is held against nothing in Stage 4.
        self.refuses(desk, "hall p p", TooMany)
        self.answers(desk, ("within p p", "yes"), ("hall n p", "none"), ("hall p n", "r0:"))
        desk.say("door p r43 a shut")
        self.answers(desk, ("hall p p", "none"))


class OrderTest(DeskTest):
    def test_in_use(self):
        desk = desk_of("plan p x:", "plan q x:", "meet m p q", "claim some q", "claim within m p")
        for name in ("p", "q", "m"):
            self.refuses(desk, f"drop {name}", InUse, name=name)
        self.answers(desk, ("unclaim 2", "ok"), ("drop m", "ok"), ("drop p", "ok"))
        self.refuses(desk, "drop q", InUse, name="q")
        self.answers(desk, ("unclaim 1", "ok"), ("drop q", "ok"), ("names", "-"))


if __name__ == "__main__":
    unittest.main()
