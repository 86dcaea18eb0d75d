"""Promise 88: a desk behind drawn lines, held against desks that are told at once what stands."""

import itertools
import random
import unittest

from mustmay.desk import Desk
from mustmay.division import over
from mustmay.errors import BadPlan, HallError, InUse, NameThere, NoName, TooMany
from mustmay.halls import hall_apart, least_hall
from mustmay.least import alike, least
from mustmay.meeting import met
from mustmay.pairs import row_apart
from mustmay.plans import Plan, free_plan, word_after
from mustmay.sides import beside
from mustmay.texts import read_plan
from mustmay.wishes import wish
from samples import rooms_of

ACTIONS = ["a", "b"]
NAMES = ["p", "q", "m", "n", "over", "some", "w"]
WISHES = (
    "never a", "always b", "never a after b", "next a after b", "at most 2 a", "never a and always a", "always a until b",
    "never b before a and at most 6 b", "at most 6 a and at most 6 b",
)
LINE = "; ".join([f"r{room}: a may r{room + 1}, b may r0" for room in range(24)] + ["r24: b may r0"])


class Model:
    """What stands, and what follows from it by promises 81 to 87, reckoned anew for each question."""

    def __init__(self):
        self.things = {}
        self.claims = {}
        self.last = 0

    def need(self, *names):
        for name in names:
            if name not in self.things:
                raise NoName(name)

    def need_new(self, name):
        if name in self.things:
            raise NameThere(name)

    def need_told(self, name):
        if name not in self.things or self.things[name][0] != "plan":
            raise NoName(name)

    def value(self, name):
        thing = self.things[name]
        if thing[0] == "plan":
            return thing[1]
        if thing[0] == "wish":
            return wish(ACTIONS, thing[1])
        one, other = self.value(thing[1]), self.value(thing[2])
        if thing[0] == "over" and other is None:
            return free_plan(ACTIONS)
        if one is None or other is None:
            return None
        return {"meet": met, "beside": beside, "over": over}[thing[0]](one, other)

    def is_within(self, one, other):
        return one is None or (other is not None and row_apart(one, other) is None)

    def is_alike(self, one, other):
        return one is other if None in (one, other) else alike(one, other)

    def claim(self, number):
        word, *names = self.claims[number]
        try:
            plans = [self.value(name) for name in names]
        except TooMany:
            return f"{number} too many"
        right = {"within": self.is_within, "alike": self.is_alike, "some": lambda plan: plan is not None}[word](*plans)
        return f"{number} {'yes' if right else 'no'}"

    def within(self, one, other):
        if self.is_within(one, other):
            return "yes"
        if other is None:
            return "no nothing"
        row, action, word = row_apart(one, other)
        return " ".join(["no", word, ACTIONS[action], "behind"] + [ACTIONS[step] for step in row])

    def hall(self, one, other):
        if one is None:
            return "none"
        if other is None:
            return rooms_of(least(least_hall(one)))
        apart = hall_apart(one, other)
        return "none" if apart is None else rooms_of(apart[0])

    def change_door(self, name, room, action, word, to=None):
        self.need_told(name)
        rows = self.things[name][1].told()
        place, number = int(room[1:]), ACTIONS.index(action)
        if place >= len(rows):
            raise BadPlan(place, -1)
        if to is not None and int(to[1:]) >= len(rows):
            raise BadPlan(place, number)
        rows[place][number] = (word, None if to is None else int(to[1:]))
        self.things[name] = ("plan", Plan(ACTIONS, rows))

    def keep(self, line):
        head, name, text = line.split(" ", 2)
        if head == "change":
            self.need_told(name)
        else:
            self.need_new(name)
        if head == "wish":
            self.things[name] = ("wish", text)
        elif head in ("plan", "change"):
            self.things[name] = ("plan", read_plan("actions a b\n" + text.replace("; ", "\n")))
        else:
            self.need(*text.split(" "))
            self.things[name] = (head, *text.split(" "))
        return "ok"

    def drop(self, name):
        self.need(name)
        leant_on = [thing[1:] for thing in self.things.values() if thing[0] not in ("plan", "wish")]
        if any(name in names for names in leant_on + [claim[1:] for claim in self.claims.values()]):
            raise InUse(name)
        self.things.pop(name)
        return "ok"

    def speak_of_claims(self, words):
        if words[0] == "claims":
            return "; ".join(self.claim(number) for number in self.claims) or "-"
        if words[0] == "unclaim":
            if int(words[1]) not in self.claims:
                raise NoName(words[1])
            self.claims.pop(int(words[1]))
            return "ok"
        self.need(*words[2:])
        self.last += 1
        self.claims[self.last] = tuple(words[1:])
        return str(self.last)

    def answer(self, words):
        self.need(*words[1:2] if words[0] == "after" else words[1:])
        if words[0] == "after":
            plan = self.value(words[1])
            row = [ACTIONS.index(name) for name in words[2:]]
            return (word_after(plan, row[:-1], row[-1]) if plan else None) or "none"
        plans = [self.value(name) for name in words[1:]]
        if words[0] == "show":
            return rooms_of(*plans)
        if words[0] == "alike":
            return "yes" if self.is_alike(*plans) else "no"
        return {"within": self.within, "hall": self.hall}[words[0]](*plans)

    def say(self, line):
        words = line.split(" ")
        if words[0] in ("plan", "change", "wish", "meet", "beside", "over"):
            return self.keep(line)
        if words[0] == "door":
            self.change_door(*words[1:])
            return "ok"
        if words[0] == "drop":
            return self.drop(words[1])
        if words[0] in ("claim", "claims", "unclaim"):
            return self.speak_of_claims(words)
        if words[0] == "names":
            return " ".join(sorted(self.things)) or "-"
        return self.answer(words)


class Drawing:
    """Lines that have their form; most of their names are there, or not there, as is wanted."""

    def __init__(self, seed, things):
        self.chance = random.Random(seed)
        self.things = things

    def one_of(self, wanted):
        return self.chance.choice(wanted if wanted and self.chance.random() < 0.85 else NAMES)

    def name(self):
        return self.one_of(list(self.things))

    def new(self):
        return self.one_of([name for name in NAMES if name not in self.things])

    def told(self):
        return self.one_of([name for name, thing in self.things.items() if thing[0] == "plan"])

    def rooms(self):
        if self.chance.random() < 0.3:
            return LINE
        many = self.chance.randint(1, 3)
        lines = []
        for room in range(many):
            doors = []
            for action in ACTIONS:
                word = self.chance.choice(("must", "may", "may", None))
                if word:
                    doors.append(f"{action} {word} r{self.chance.randrange(many)}")
            lines.append(f"r{room}:" + " " * bool(doors) + ", ".join(doors))
        return "; ".join(lines)

    def door(self):
        end = self.chance.choice(("shut", "must r{}", "may r{}")).replace("{}", str(self.chance.randrange(4)))
        return f"door {self.told()} r{self.chance.randrange(3)} {self.chance.choice(ACTIONS)} {end}"

    def made(self):
        return f"{self.chance.choice(('meet', 'beside', 'over'))} {self.new()} {self.name()} {self.name()}"

    def claim(self):
        word = self.chance.choice(("within", "alike", "some"))
        return f"claim {word} {self.name()}" + ("" if word == "some" else f" {self.name()}")

    def question(self):
        word = self.chance.choice(("show", "within", "alike", "hall", "after", "claims", "names"))
        if word in ("claims", "names"):
            return word
        if word == "after":
            return f"after {self.name()} " + " ".join(self.chance.choices(ACTIONS, k=self.chance.randint(1, 4)))
        return f"{word} {self.name()}" + ("" if word == "show" else f" {self.name()}")

    def line(self):
        return self.chance.choice((
            lambda: f"plan {self.new()} {self.rooms()}",
            lambda: f"change {self.told()} {self.rooms()}",
            lambda: f"wish {self.new()} {self.chance.choice(WISHES)}",
            self.door, self.door, self.made, self.made, self.claim,
            lambda: f"drop {self.name()}",
            lambda: f"drop {self.name()}",
            lambda: f"unclaim {self.chance.randint(1, 12)}",
            lambda: f"unclaim {self.chance.randint(1, 12)}",
            self.question, self.question,
        ))()


def said(desk, line):
    """What is answered, or how it is refused."""
    try:
        return desk.say(line)
    except HallError as refusal:
        return (type(refusal).__name__, vars(refusal))


def all_questions(names):
    lines = ["names"]
    for name in names:
        lines += [f"show {name}", f"after {name} a", f"after {name} b a", f"after {name} a b b"]
    return lines + [f"{word} {one} {other}" for word in ("within", "alike", "hall") for one in names for other in names]


def order_that_can_be(things, chance):
    """The names in an order in which each stands behind what it is made of."""
    left = dict(things)
    order = []
    while left:
        names = [name for name, thing in left.items() if thing[0] in ("plan", "wish") or not set(thing[1:]) & set(left)]
        order.append(chance.choice(names))
        left.pop(order[-1])
    return order


def told_at_once(model, chance):
    desk = Desk(ACTIONS)
    for name in order_that_can_be(model.things, chance):
        thing = model.things[name]
        rest = rooms_of(thing[1]) if thing[0] == "plan" else " ".join(thing[1:])
        desk.say(f"{thing[0]} {name} {rest}")
    for claim in model.claims.values():
        desk.say("claim " + " ".join(claim))
    return desk


def claims_of(desk):
    """The answers of the claims, without their numbers."""
    return [claim.partition(" ")[2] for claim in desk.say("claims").split("; ")]


class AnewTest(unittest.TestCase):
    def check_anew(self, desk, model, chance):
        fresh = told_at_once(model, chance)
        for line in all_questions(list(model.things)):
            self.assertEqual(said(desk, line), said(fresh, line), line)
        self.assertEqual(claims_of(desk), claims_of(fresh))

    def test_drawn_lines(self):
        seen = {}
        for seed in range(60):
            model, desk = Model(), Desk(ACTIONS)
            drawing = Drawing(seed, model.things)
            for step in range(60):
                line = drawing.line()
                answer = said(desk, line)
                self.assertEqual(answer, said(model, line), (seed, step, line))
                kind = answer[0] if isinstance(answer, tuple) else line.split(" ")[0]
                seen[kind] = seen.get(kind, 0) + 1
                if step % 12 == 11:
                    self.assertEqual(said(desk, "claims"), said(model, "claims"), (seed, step))
                    self.check_anew(desk, model, drawing.chance)
        for kind in ("BadPlan", "InUse", "NameThere", "NoName", "TooMany", "plan", "change", "wish", "door", "meet", "beside",
                     "over", "drop", "names", "show", "within", "alike", "hall", "after", "claim", "claims", "unclaim"):
            self.assertGreater(seen.get(kind, 0), 5, (kind, seen))

    def test_all_questions_behind_drawn_lines(self):
        for seed in range(200, 212):
            model, desk = Model(), Desk(ACTIONS)
            drawing = Drawing(seed, model.things)
            for step in range(40):
                line = drawing.line()
                said(desk, line)
                said(model, line)
            for line in all_questions(list(model.things)) + ["claims"]:
                self.assertEqual(said(desk, line), said(model, line), (seed, line))

    def test_questions_in_between_change_nothing(self):
        for seed in range(300, 310):
            model = Model()
            drawing = Drawing(seed, model.things)
            asked, quiet = Desk(ACTIONS), Desk(ACTIONS)
            for step in range(50):
                line = drawing.line()
                said(model, line)
                for word in ("claims", "names", "show p", "within q m", "hall m n", "after w a b", "alike over some"):
                    said(asked, word)
                self.assertEqual(said(asked, line), said(quiet, line), line)
            for line in all_questions(NAMES) + ["claims"]:
                self.assertEqual(said(asked, line), said(quiet, line), line)

    def test_each_change_of_what_a_claim_speaks_of(self):
        lines = ("plan p x: a may x", "plan q x: a must x, b may x", "wish w next a after b", "meet m p q", "over some q w",
                 "beside n m w", "over over n some")
        claims = [f"claim {word} {one} {other}" for word in ("within", "alike") for one, other in
                  itertools.combinations(NAMES, 2)] + [f"claim some {name}" for name in NAMES]
        changes = ("door p r0 a shut", "door q r0 a may r0", "change p x: a must y; y: b must x", f"change q {LINE}",
                   "door q r24 a must r3", f"change p {LINE}", "door p r3 b shut", "change p x: a may x, b may x", "change q x:")
        desk, model = Desk(ACTIONS), Model()
        for line in list(lines) + claims:
            self.assertEqual(said(desk, line), said(model, line), line)
        found = []
        for line in changes:
            self.assertEqual(said(desk, line), "ok")
            said(model, line)
            found.append(said(desk, "claims"))
            self.assertEqual(found[-1], said(model, "claims"), line)
            self.check_anew(desk, model, random.Random(1))
        self.assertGreater(len(set(found)), 5)


if __name__ == "__main__":
    unittest.main()
