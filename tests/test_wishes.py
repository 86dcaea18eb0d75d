import itertools
import random
import unittest

from mustmay.errors import NoWish
from mustmay.halls import fullest_hall, least_hall
from mustmay.least import least
from mustmay.meeting import met
from mustmay.pairs import within
from mustmay.plans import Plan, free_plan, word_after
from mustmay.wishes import wish
from samples import SHUT, all_halls, fits, may, must, told_of, words_at

TWO = ["a", "b"]
THREE = ["a", "b", "c"]
FORMS = (
    "never A", "always A", "never A after B", "never A before B", "always A until B", "always A after B",
    "next A after B", "at most N A",
)
COUNTS = ("0", "1", "2", "3", "4", "5", "6")
# Names that are words of the forms, too.
LIKE_WORDS = ["after", "and", "at", "most", "never", "next", "until", "before"]


def filled(form, action, other, count):
    places = {"A": action, "B": other, "N": count}
    return [places.get(word, word) for word in form.split(" ")]


def demands_of(actions):
    """All demands over a list of actions, as lists of words."""
    found = []
    for form, action, other, count in itertools.product(FORMS, actions, actions, COUNTS):
        words = filled(form, action, other, count)
        if (action != other or "B" not in form) and words not in found:
            found.append(words)
    return found


def text_of(demands):
    return " and ".join(" ".join(words) for words in demands)


def asked_word(words, counts, last):
    """Promise 71: (action, "must" or "shut") where a demand says something behind a row, else None.

    Of the row it is known how often each action stands in it, and which one is the last.
    """
    if words[0] == "at":
        return (words[3], "shut") if counts[words[3]] == int(words[2]) else None
    action, word = words[1], "shut" if words[0] == "never" else "must"
    if len(words) == 2:
        return (action, word)
    link, other = words[2], words[3]
    if words[0] == "next":
        return (action, word) if last == other else None
    done = counts[other] > 0
    return (action, word) if done == (link == "after") else None


class Rows:
    """All that rows can come to for the demands, with counts up to seven."""

    def __init__(self, actions, demands):
        self.actions = actions
        self.asked = {}
        left = [((0,) * len(actions), None)]
        while left:
            state = left.pop()
            if state not in self.asked:
                self.asked[state] = self.words_at(state, demands)
                left += [self.behind(state, place) for place in range(len(actions))]
        self.bad = {state for state, asked in self.asked.items() if any(len(words) == 2 for words in asked)}
        many = -1
        while many < len(self.bad):
            many = len(self.bad)
            self.bad |= {state for state in self.asked if self.must_be_bad(state)}

    def words_at(self, state, demands):
        counts = dict(zip(self.actions, state[0]))
        told = [asked_word(words, counts, state[1]) for words in demands]
        return [{word for pair in told if pair for word in [pair[1]] if pair[0] == name} for name in self.actions]

    def behind(self, state, place):
        counts = list(state[0])
        counts[place] = min(counts[place] + 1, 7)
        return (tuple(counts), self.actions[place])

    def must_be_bad(self, state):
        asked = self.asked[state]
        return any("must" in words and self.behind(state, place) in self.bad for place, words in enumerate(asked))

    def wanted(self, state):
        """Promise 72: the words of the doors behind a row."""
        found = []
        for place, words in enumerate(self.asked[state]):
            if "must" in words:
                found.append("must")
            elif "shut" in words or self.behind(state, place) in self.bad:
                found.append("shut")
            else:
                found.append("may")
        return found

    def start(self):
        return ((0,) * len(self.actions), None)


def grants(hall, actions, demands):
    """Whether what promise 71 says holds behind every row that can be gone in the hall."""
    left = [(0, ((0,) * len(actions), None))]
    seen = set(left)
    rows = Rows(actions, [])
    while left:
        room, state = left.pop()
        counts = dict(zip(actions, state[0]))
        words = dict(zip(actions, words_at(hall, room)))
        for demand in demands:
            asked = asked_word(demand, counts, state[1])
            if asked is not None and words[asked[0]] != asked[1]:
                return False
        for place, name in enumerate(actions):
            if words[name] == "must":
                step = (hall.door(room, place).to, rows.behind(state, place))
                if step not in seen:
                    seen.add(step)
                    left.append(step)
    return True


class DemandTest(unittest.TestCase):
    def check(self, text, rows):
        told = wish(THREE, text)
        self.assertIs(type(told), Plan)
        self.assertEqual(told.action_list(), THREE)
        self.assertEqual(told.told(), rows)

    def test_never(self):
        self.check("never b", [[may(0), SHUT, may(0)]])

    def test_always(self):
        self.check("always b", [[may(0), must(0), may(0)]])

    def test_never_after(self):
        self.check("never a after b", [[may(0), may(1), may(0)], [SHUT, may(1), may(1)]])

    def test_never_before(self):
        self.check("never a before b", [[SHUT, may(1), may(0)], [may(1), may(1), may(1)]])

    def test_always_until(self):
        self.check("always a until b", [[must(0), may(1), may(0)], [may(1), may(1), may(1)]])

    def test_always_after(self):
        self.check("always a after b", [[may(0), may(1), may(0)], [must(1), may(1), may(1)]])

    def test_next_after(self):
        self.check("next a after b", [[may(0), may(1), may(0)], [must(0), may(1), may(0)]])

    def test_at_most(self):
        for many in range(7):
            rows = [[may(done), may(done), may(done + 1)] for done in range(many)] + [[may(many), may(many), SHUT]]
            self.check(f"at most {many} c", rows)

    def test_with_one_action(self):
        self.assertEqual(wish(["a"], "never a").told(), [[SHUT]])
        self.assertEqual(wish(["a"], "always a").told(), [[must(0)]])
        self.assertEqual(wish(["a"], "at most 2 a").told(), [[may(1)], [may(2)], [SHUT]])

    def test_the_actions_in_any_order(self):
        self.assertEqual(wish(["b", "a"], "never a after b").told(), [[may(1), may(0)], [may(1), SHUT]])

    def test_names_like_words(self):
        for form, action, other in itertools.product(FORMS, LIKE_WORDS, LIKE_WORDS):
            if action != other:
                text = " ".join(filled(form, action, other, "3"))
                names = ["x" if name not in (action, other) else name for name in LIKE_WORDS]
                names = [name if name != "x" else "x" * (place + 1) for place, name in enumerate(names)]
                plain = [{action: "a", other: "b"}.get(name, name) for name in names]
                wanted = wish(plain, " ".join(filled(form, "a", "b", "3"))).told()
                self.assertEqual(wish(LIKE_WORDS, text).told(), wanted, text)

    def test_names_like_words_of_doors(self):
        names = ["may", "shut", "must"]
        self.assertEqual(wish(names, "at most 1 shut").told(), [[may(0), may(1), may(0)], [may(1), SHUT, may(1)]])
        self.assertEqual(wish(names, "at most 1 may").told(), [[may(1), may(0), may(0)], [SHUT, may(1), may(1)]])
        self.assertEqual(wish(names, "never must after may").told(), [[may(1), may(0), may(0)], [may(1), may(1), SHUT]])
        self.assertEqual(wish(names, "always may and never shut").told(), [[must(0), SHUT, may(0)]])

    def test_names_like_words_in_several_demands(self):
        told = wish(LIKE_WORDS, "never and and never after after and and at most 0 at").told()
        # never and; never after after and; at most 0 at.
        self.assertEqual(told, [[may(0), SHUT, SHUT] + [may(0)] * 5])
        told = wish(["and", "never"], "never and after never and never never").told()
        self.assertEqual(told, [[may(0), SHUT]])
        told = wish(["and", "most"], "at most 1 most and at most 1 and").told()
        self.assertEqual(told, [[may(1), may(2)], [SHUT, may(3)], [may(3), SHUT], [SHUT, SHUT]])


class WishTest(unittest.TestCase):
    def check(self, actions, demands):
        """The plan, held against promises 71 and 72 behind every row."""
        told = wish(actions, text_of(demands))
        rows = Rows(actions, demands)
        start = rows.start()
        if start in rows.bad:
            self.assertIsNone(told, demands)
            return None
        self.assertEqual(least(told).told(), told.told())
        left = [(0, start)]
        seen = set(left)
        while left:
            room, state = left.pop()
            self.assertEqual(words_at(told, room), rows.wanted(state), (demands, state))
            for place, name in enumerate(actions):
                if told.door(room, place).allows():
                    step = (told.door(room, place).to, rows.behind(state, place))
                    if step not in seen:
                        seen.add(step)
                        left.append(step)
        return told

    def test_one_demand(self):
        for actions in (["a"], TWO, THREE):
            for demand in demands_of(actions):
                self.assertIsNotNone(self.check(actions, [demand]))

    def test_two_demands(self):
        nothing = 0
        for demands in itertools.product(demands_of(TWO), repeat=2):
            nothing += self.check(TWO, demands) is None
        self.assertGreater(nothing, 20)

    def test_three_demands(self):
        chance = random.Random(120)
        some = demands_of(TWO)
        found = [self.check(TWO, [chance.choice(some) for place in range(3)]) for time in range(800)]
        self.assertGreater(found.count(None), 50)
        self.assertGreater(len(found) - found.count(None), 200)

    def test_three_actions(self):
        chance = random.Random(121)
        some = [demand for demand in demands_of(THREE) if demand[2:3] not in (["4"], ["5"])]
        for time in range(60):
            self.check(THREE, [chance.choice(some) for place in range(chance.randint(1, 3))])

    def test_contradictions_at_once(self):
        for text in ("never a and always a", "always a and never a", "always a and never a before b",
                     "at most 0 a and always a", "always a until b and never a", "always a until b and never a before b"):
            self.assertIsNone(wish(TWO, text), text)

    def test_contradictions_behind_must_doors(self):
        # Behind as many a as there may be there must be one more.
        for many in range(7):
            self.assertIsNone(wish(TWO, f"always a and at most {many} a"))
            self.assertIsNone(wish(TWO, f"always a until b and at most {many} a"))
        self.assertIsNone(wish(TWO, "always b and next a after b and never a"))
        self.assertIsNone(wish(THREE, "always a and next b after a and never b after a"))

    def test_contradictions_behind_some_rows_only(self):
        told = wish(TWO, "always a after b and never a after b").told()
        self.assertEqual(told, [[may(0), SHUT]])
        told = wish(TWO, "next a after b and at most 1 a").told()
        # One b with an a behind it, or an a and no b.
        self.assertEqual(told, [[may(1), may(2)], [SHUT, SHUT], [must(1), may(2)]])
        told = wish(TWO, "next a after b and never a").told()
        self.assertEqual(told, [[SHUT, SHUT]])

    def test_none_even_if_a_later_demand_is_fine(self):
        self.assertIsNone(wish(TWO, "never a and always a and always b"))
        self.assertIsNone(wish(TWO, "always b and never a and always a"))
        self.assertIsNone(wish(TWO, "never a and always b and always a"))

    def test_just_the_halls_that_grant_it(self):
        halls = all_halls(1, 2) + all_halls(2, 2)
        some = demands_of(TWO)
        chance = random.Random(122)
        wishes = [[demand] for demand in some]
        wishes += [[chance.choice(some) for place in range(chance.randint(2, 3))] for time in range(60)]
        for demands in wishes:
            told = wish(TWO, text_of(demands))
            for hall in halls:
                fitting = told is not None and fits(hall, told)
                self.assertEqual(fitting, grants(hall, TWO, demands), (demands, hall.told()))
            if told is not None:
                self.assertTrue(grants(least_hall(told), TWO, demands))
                self.assertTrue(grants(fullest_hall(told), TWO, demands))

    def test_demands_in_any_order_and_several_times(self):
        chance = random.Random(123)
        some = demands_of(THREE)
        for time in range(60):
            three = [chance.choice(some) for place in range(3)]
            told = told_of(wish(THREE, text_of(three)))
            for order in itertools.permutations(three):
                self.assertEqual(told_of(wish(THREE, text_of(order))), told)
            twice = text_of([three[0], three[1], three[0]])
            self.assertEqual(told_of(wish(THREE, twice)), told_of(wish(THREE, text_of(three[:2]))))

    def test_demands_are_met(self):
        for one, other in itertools.product(demands_of(TWO)[::3], repeat=2):
            plans = [wish(TWO, " ".join(words)) for words in (one, other)]
            self.assertEqual(told_of(met(*plans)), told_of(wish(TWO, text_of([one, other]))))

    def test_wishes_within_wishes(self):
        for less, more in (("never a", "never a after b"), ("always a", "next a after b"),
                           ("at most 2 a", "at most 3 a"), ("never a", "at most 0 a"), ("at most 0 a", "never a"),
                           ("always a after b", "next a after b")):
            self.assertTrue(within(wish(TWO, less), wish(TWO, more)))
        self.assertFalse(within(wish(TWO, "at most 3 a"), wish(TWO, "at most 2 a")))
        self.assertFalse(within(wish(TWO, "next a after b"), wish(TWO, "always a after b")))

    def test_the_largest(self):
        told = wish(THREE, "at most 6 a and at most 6 b and at most 6 c")
        self.assertEqual(told.many(), 343)
        self.assertEqual(word_after(told, [0] * 6 + [1] * 5 + [2] * 6, 1), "may")
        self.assertEqual(word_after(told, [0] * 6 + [1] * 6 + [2] * 6, 1), "shut")


def can_begin(words, demands, left):
    """Whether words are the beginning of up to so many demands with `and` between them."""
    for demand in demands:
        if words == demand[:len(words)]:
            return True
        if words[:len(demand)] == demand and words[len(demand)] == "and" and left > 1:
            if can_begin(words[len(demand) + 1:], demands, left - 1):
                return True
    return False


def is_whole(words, demands, left):
    for demand in demands:
        if words == demand:
            return True
        if words[:len(demand) + 1] == demand + ["and"] and left > 1:
            if is_whole(words[len(demand) + 1:], demands, left - 1):
                return True
    return False


def wrong_place(text, demands):
    """Promise 73: None for a wish, else the place."""
    words = text.split(" ")
    for place in range(len(words)):
        if not can_begin(words[:place + 1], demands, 3):
            return place
    return None if is_whole(words, demands, 3) else len(words)


class NoWishTest(unittest.TestCase):
    def refused(self, actions, text, place):
        with self.assertRaises(NoWish) as caught:
            wish(actions, text)
        self.assertEqual(caught.exception.place, place, text)
        self.assertIs(type(caught.exception.place), int)

    def test_each_place_of_each_form(self):
        wrong = ("", "c", "A", "aa", "Never", "7", "10", "a,", "=", "and", "most", "0", "never", "always", "after", "B")
        allowed = {
            "never": ("never", "always", "next", "at"), "always": ("never", "always", "next", "at"),
            "next": ("never", "always", "next", "at"), "at": ("never", "always", "next", "at"),
            "most": ("most",), "N": COUNTS, "A": ("a", "b"), "B": ("b",),
        }
        for form in FORMS:
            pattern = form.split(" ")
            words = filled(form, "a", "b", "3")
            for place, part in enumerate(pattern):
                for word in wrong + ("a", "b"):
                    can = allowed.get(part)
                    if can is None:
                        # The word between A and B, behind what the form begins with.
                        can = {"never": ("after", "before", "and"), "always": ("until", "after", "and")}.get(words[0])
                        can = can or ("after",)
                    if word not in can:
                        self.refused(TWO, " ".join(words[:place] + [word] + words[place + 1:]), place)

    def test_words_behind_a_demand(self):
        for form in FORMS:
            words = filled(form, "a", "b", "3")
            for word in ("", "a", "or", "And", "never", "until" if words[0] != "always" else "before", "b", "3"):
                self.refused(TWO, " ".join(words + [word]), len(words))
            self.refused(TWO, " ".join(words + ["and"]), len(words) + 1)
            self.refused(TWO, " ".join(words + ["and", "and"]), len(words) + 1)
            self.refused(TWO, " ".join(words + ["and", "always"]), len(words) + 2)

    def test_texts_that_end_too_early(self):
        for form in FORMS:
            words = filled(form, "a", "b", "3")
            for many in range(1, len(words)):
                if words[:many] not in (["never", "a"], ["always", "a"]):
                    self.refused(TWO, " ".join(words[:many]), many)
                    self.refused(TWO, " ".join(["always", "b", "and"] + words[:many]), many + 3)

    def test_blanks(self):
        self.refused(TWO, "", 0)
        self.refused(TWO, " ", 0)
        self.refused(TWO, " never a", 0)
        self.refused(TWO, "never a ", 2)
        self.refused(TWO, "never  a", 1)
        self.refused(TWO, "never a  after b", 2)
        self.refused(TWO, "never a after  b", 3)
        self.refused(TWO, "never a after b ", 4)
        self.refused(TWO, "never a and ", 3)
        self.refused(TWO, "never a and  never b", 3)
        self.refused(TWO, "at most  3 a", 2)
        self.refused(TWO, "at most 3 a ", 4)
        self.refused(TWO, "never\na", 0)
        self.refused(TWO, "never a\n", 1)

    def test_counts(self):
        for count in ("7", "8", "9", "10", "06", "00", "-1", "+1", "", "a", "N", "1.", "01", "012"):
            self.refused(TWO, f"at most {count} a", 2)

    def test_a_fourth_demand(self):
        three = "never a and always b and at most 3 a"
        self.assertIsNotNone(wish(TWO, three))
        self.refused(TWO, three + " and", 10)
        self.refused(TWO, three + " and never a", 10)
        self.refused(TWO, "never a and never a and never a and never a", 8)
        self.refused(TWO, "next a after b and next a after b and next a after b and", 14)

    def test_a_contradiction_does_not_hide_a_wrong_word(self):
        self.refused(TWO, "never a and always a and never c", 7)
        self.refused(TWO, "never a and always a and", 6)
        self.refused(TWO, "never a and always a or", 5)

    def test_b_that_is_a(self):
        for form in FORMS:
            if "B" in form:
                self.refused(TWO, " ".join(filled(form, "a", "a", "")), 3)
                self.refused(TWO, "always a and " + " ".join(filled(form, "b", "b", "")), 6)
        # The other demand's A may be this one's B.
        self.assertIsNotNone(wish(TWO, "never a after b and never b after a"))

    def test_one_action_alone(self):
        for form in FORMS:
            if "B" in form:
                words = filled(form, "a", "b", "")
                self.refused(["a"], " ".join(words[:3]), 3)
                self.refused(["a"], " ".join(words), 3)
                self.refused(["a"], " ".join(words[:3] + ["a"]), 3)
        self.refused(["a"], "next", 1)
        self.refused(["a"], "next a", 2)
        self.refused(["a"], "next a and", 2)

    def test_names_like_words(self):
        names = ["after", "and"]
        self.refused(names, "never after after after", 3)
        self.refused(names, "never after after", 3)
        self.assertEqual(wish(names, "never after after and").told(), [[may(0), may(1)], [SHUT, may(1)]])
        self.refused(names, "never after after and and", 5)
        self.refused(names, "never and and and", 3)
        self.refused(names, "never and and", 3)
        self.refused(names, "and never after", 0)
        self.refused(["at", "most"], "at at most", 1)
        self.refused(["at", "most"], "at most most 3", 2)

    def test_all_short_texts(self):
        some = demands_of(TWO)
        words = ("never", "always", "next", "at", "most", "after", "before", "until", "and", "a", "b", "c", "3", "7", "")
        for many in range(1, 5):
            for text in itertools.product(words, repeat=many):
                # From the first wrong place on nothing matters.
                if many < 4 or can_begin(list(text[:2]), some, 3):
                    self.check(TWO, " ".join(text), some)

    def check(self, actions, text, demands):
        place = wrong_place(text, demands)
        if place is None:
            wish(actions, text)
        else:
            self.refused(actions, text, place)

    def test_texts_by_chance(self):
        chance = random.Random(124)
        some = demands_of(LIKE_WORDS[:3])
        words = LIKE_WORDS + ["always", "a", "3", "7", "", "never", "and", "after"]
        wrong = 0
        for time in range(1500):
            text = text_of([chance.choice(some) for place in range(chance.randint(1, 4))]).split(" ")
            for change in range(chance.choice((0, 1, 1, 2))):
                place = chance.randrange(len(text))
                text[place:place + chance.randint(0, 1)] = [chance.choice(words)] * chance.randint(0, 1)
                text = text or [""]
            wrong += wrong_place(" ".join(text), some) is not None
            self.check(LIKE_WORDS[:3], " ".join(text), some)
        self.assertGreater(wrong, 500)


class OwnListsTest(unittest.TestCase):
    def test_the_list_handed_in_stays_and_may_be_changed(self):
        names = ["a", "b"]
        told = wish(names, "never a after b and at most 2 b")
        self.assertEqual(names, ["a", "b"])
        kept = told.told()
        names[0] = "x"
        names.append("y")
        self.assertEqual((told.action_list(), told.told()), (["a", "b"], kept))

    def test_what_is_told_is_new(self):
        told = wish(TWO, "never a")
        told.told()[0].clear()
        told.action_list().clear()
        self.assertEqual((told.action_list(), told.told()), (["a", "b"], [[SHUT, may(0)]]))
        self.assertEqual(wish(TWO, "never a").told(), [[SHUT, may(0)]])
        self.assertEqual(met(wish(TWO, "never a"), free_plan(TWO)).told(), [[SHUT, may(0)]])


if __name__ == "__main__":
    unittest.main()
