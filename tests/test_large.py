"""Plans as large as they may be: what is told, and that it is told in a time that one can wait for."""

import random
import time
import unittest

from mustmay.cleaning import cleaned, is_torn_row, torn_row
from mustmay.desk import Desk
from mustmay.division import division, over, spoiler
from mustmay.errors import TooMany
from mustmay.halls import fullest_hall, hall_along, hall_apart, least_hall, rooms_apart
from mustmay.least import alike, classes, least, parting, reached
from mustmay.meeting import meeting, met
from mustmay.pairs import is_table, row_apart, table_of, within
from mustmay.sides import beside
from mustmay.wishes import wish
from samples import NAMES, SHUT, TORN, draft_of, fits, full_plan, line_plan, may, must, plan_of, ring_plan, rooms_of

MOST = 2000
SECONDS = 60


def random_plan(seed, many, actions):
    chance = random.Random(seed)
    doors = [SHUT] + [may(room) for room in range(many)] + [must(room) for room in range(many)]
    return plan_of([[chance.choice(doors) for action in range(actions)] for room in range(many)])


def mirrored_line(many):
    """A line in which each room but the first also has seven doors back to the first one."""
    rows = [[may(min(room + 1, many - 1))] + [may(0)] * 7 for room in range(many - 1)]
    return plan_of(rows + [[must(0)] * 8])


class LargeTest(unittest.TestCase):
    def setUp(self):
        self.began = time.monotonic()

    def tearDown(self):
        self.assertLess(time.monotonic() - self.began, SECONDS)


class LeastTest(LargeTest):
    def test_a_line(self):
        for plan in (line_plan(MOST), line_plan(MOST, must), mirrored_line(MOST)):
            self.assertEqual(reached(plan), list(range(MOST)))
            self.assertEqual(classes(plan), list(range(MOST)))
            self.assertEqual(least(plan).told(), plan.told())
        self.assertEqual(parting(line_plan(MOST), 0, 1), ([0] * 1998, 0))
        self.assertEqual(parting(mirrored_line(MOST), 0, 1), ([0] * 1998, 0))

    def test_a_line_that_is_walked_from_its_end(self):
        rows = [[must(0)]] + [[may(room - 1)] for room in range(1, MOST)]
        self.assertEqual(classes(plan_of(rows)), list(range(MOST)))
        self.assertEqual(parting(plan_of(rows), 1998, 1999), ([0] * 1998, 0))

    def test_rings(self):
        for actions in (1, 8):
            plan = ring_plan(MOST, actions)
            self.assertEqual(classes(plan), [0] * MOST)
            self.assertEqual(least(plan).told(), [[may(0)] * actions])
            for other in (1, 2, 777, 1999):
                self.assertIsNone(parting(plan, 0, other))
        self.assertIs(alike(ring_plan(2000, 8), ring_plan(1999, 8)), True)

    def test_rings_of_two_kinds(self):
        rows = [[may((room + 1) % MOST)] if room % 4 else [must(room + 1)] for room in range(MOST)]
        self.assertEqual(classes(plan_of(rows)), [0, 1, 2, 3] * 500)
        rows[1999] = [SHUT]
        plan = plan_of(rows)
        self.assertEqual(least(plan).many(), MOST)
        self.assertEqual(parting(plan, 0, 4), ([0] * 1995, 0))

    def test_plans_by_chance(self):
        for actions in (1, 2, 8):
            plan = random_plan(actions, MOST, actions)
            small = least(plan)
            self.assertIs(alike(plan, small), True)
            self.assertEqual(least(small).told(), small.told())
            firsts = classes(plan)
            for room in range(0, MOST, 50):
                self.assertIsNone(parting(plan, room, firsts[room]))
                other = (room * 7 + 1) % MOST
                self.assertEqual(parting(plan, room, other) is None, firsts[room] == firsts[other])


class PairsTest(LargeTest):
    def check_table(self, one, other, many):
        table = table_of(one, other)
        self.assertEqual(len(table), many)
        self.assertEqual(table[:2], [(0, 0), (1, 1)])
        self.assertEqual(len(set(table)), many)
        self.assertIs(within(one, other), True)
        self.assertIsNone(row_apart(one, other))
        self.assertIs(is_table(one, other, table), True)
        self.assertIs(is_table(one, other, table[:-1]), False)

    def test_a_million_pairs(self):
        self.check_table(ring_plan(1001, 8, must), ring_plan(999, 8), 1001 * 999)

    def test_unlike_sizes(self):
        self.check_table(ring_plan(499, 1), ring_plan(2000, 1), 2000 * 499)

    def test_the_last_pair_alone_has_a_fault(self):
        # Both actions lead on in both rings, so all pairs are come to before the two ends meet.
        one = plan_of([[may((room + 1) % 1001), must((room + 1) % 1001)] for room in range(1000)] + [[may(0), SHUT]])
        other = plan_of([[may(room + 1), may(room + 1)] for room in range(998)] + [[may(0), must(0)]])
        self.assertEqual(row_apart(one, other), ([0] * (1001 * 999 - 1), 1, "lacks"))
        self.assertIs(within(one, other), False)
        self.assertIsNone(table_of(one, other))


class HallsTest(LargeTest):
    def test_large_plans(self):
        plan = ring_plan(MOST, 8)
        self.assertEqual(least_hall(plan).told(), [[SHUT] * 8] * MOST)
        self.assertEqual(fullest_hall(plan).told(), ring_plan(MOST, 8, must).told())
        hall = hall_along(plan, [7] * 1998, 3, True)
        self.assertEqual(hall.many(), MOST)
        self.assertIsNone(hall_apart(plan, ring_plan(1999, 8)))
        self.assertIsNone(rooms_apart(plan, 3, 1999))

    def test_halls_apart(self):
        ring = ring_plan(MOST, 8)
        other = plan_of([[may(room + 1)] * 8 for room in range(1998)] + [[SHUT] * 8])
        hall, row, action = hall_apart(ring, other)
        self.assertEqual((row, action, hall.many()), ([0] * 1998, 0, MOST))
        self.assertIs(within(hall, least(ring)), True)


class CleaningTest(LargeTest):
    def check_torn(self, draft, many):
        rows = torn_row(draft)
        self.assertEqual(len(rows), many)
        self.assertEqual(rows, sorted(rows, key=lambda row: (row[1], row[0])))
        self.assertIs(is_torn_row(draft, rows), True)
        self.assertIs(is_torn_row(draft, rows[::-1] * 10), True)
        self.assertIs(is_torn_row(draft, [row for row in rows if row[1] != 0]), False)

    def test_a_line_of_must_doors(self):
        draft = draft_of([[must(room + 1)] for room in range(MOST - 1)] + [[TORN]])
        self.assertEqual(torn_row(draft), [(MOST - 1 - rank, rank, 0) for rank in range(MOST)])
        self.check_torn(draft, MOST)
        self.assertIsNone(cleaned(draft))

    def test_a_line_of_may_doors(self):
        draft = draft_of([[may(room + 1)] for room in range(MOST - 1)] + [[TORN]])
        self.assertEqual(torn_row(draft), [(MOST - 1, 0, 0)])
        self.assertEqual(cleaned(draft).told(), line_plan(MOST - 1).told())

    def test_rings(self):
        ring = ring_plan(MOST, 8, must)
        self.assertEqual(torn_row(ring), [])
        self.assertEqual(cleaned(ring).told(), [[must(0)] * 8])
        rows = ring.told()
        rows[1234][7] = TORN
        self.check_torn(draft_of(rows), MOST)
        self.assertIsNone(cleaned(draft_of(rows)))

    def test_drafts_by_chance(self):
        for actions in (1, 2, 8):
            rows = random_plan(90 + actions, MOST, actions).told()
            for room in range(1000):
                rows[room] = [(word.replace("must", "may"), to) for word, to in rows[room]]
            for room in range(1000, MOST, 150):
                rows[room][-1] = TORN
            draft = draft_of(rows)
            torn = [row[0] for row in torn_row(draft)]
            self.check_torn(draft, len(torn))
            self.assertGreaterEqual(min(torn), 1000)
            plan = cleaned(draft)
            self.assertTrue(fits(least_hall(plan), draft))
            self.assertTrue(fits(fullest_hall(plan), draft))


class TwoPlansTest(LargeTest):
    def test_small_least_plans(self):
        self.assertEqual(met(ring_plan(MOST, 8), ring_plan(1999, 8, must)).told(), [[must(0)] * 8])
        self.assertEqual(beside(ring_plan(MOST, 8), ring_plan(1999, 8, must)).told(), [[may(0)] * 8])

    def test_too_many(self):
        plans = (line_plan(MOST), line_plan(MOST, must))
        for work in (meeting, met, beside, division, over):
            with self.assertRaises(TooMany):
                work(*plans)
        with self.assertRaises(TooMany):
            spoiler(*plans, plans[1])

    def test_six_hundred_rooms(self):
        plan = random_plan(99, 600, 8)
        free = ring_plan(1, 8)
        full = ring_plan(1, 8, must)
        self.assertEqual(cleaned(meeting(plan, free)[0]).told(), least(plan).told())
        self.assertEqual(met(plan, free).told(), least(plan).told())
        self.assertEqual(beside(plan, full).told(), least(plan).told())
        self.assertEqual(over(plan, full).told(), least(plan).told())
        self.assertEqual(over(free, plan).told(), free.told())

    def test_small_least_plans_of_divisions(self):
        self.assertEqual(over(ring_plan(MOST, 8), ring_plan(1999, 8, must)).told(), [[may(0)] * 8])
        self.assertIsNone(spoiler(ring_plan(MOST, 8), ring_plan(1999, 8), ring_plan(MOST, 8, must)))

    def test_rings_divided(self):
        # 600 pairs, none of them alike, and the free room.
        whole = plan_of([[may((room + 1) % 24)] * 8 for room in range(23)] + [[may(0)] * 7 + [SHUT]])
        part = plan_of([[may((room + 1) % 25)] * 8 for room in range(24)] + [[may(0)] * 6 + [SHUT, may(0)]])
        draft, pairs = division(whole, part)
        self.assertEqual((draft.many(), pairs.count(None)), (601, 1))
        self.assertEqual(over(whole, part).many(), 601)

    def test_spoilers(self):
        # Both are at their last rooms once in 44 * 43 steps.
        whole = plan_of([[may((room + 1) % 44)] * 8 for room in range(43)] + [[may(0)] * 7 + [SHUT]])
        part = plan_of([[may((room + 1) % 43)] * 7 + [SHUT] for room in range(42)] + [[may(0)] * 8])
        hall = full_plan(NAMES)
        other, row, action = spoiler(whole, part, hall)
        self.assertEqual((row, action), ([0] * (44 * 43 - 1), 7))
        self.assertTrue(fits(other, part))
        self.assertEqual(whole.after(row), 43)
        self.assertEqual(other.door(other.after(row), 7).word(), "must")

    def test_wishes(self):
        told = wish(NAMES, "at most 6 a and at most 6 h and at most 6 d")
        self.assertEqual(told.many(), 343)
        self.assertEqual(wish(NAMES, "at most 6 a and at most 6 h and next h after d").many(), 91)


class DeskTest(LargeTest):
    def ring(self, many, word):
        rows = [[(word, (room + 1) % many)] * 8 for room in range(many)]
        rows[-1][-1] = SHUT
        return rooms_of(plan_of(rows))

    def test_forty_names_and_forty_claims(self):
        desk = Desk(NAMES)
        desk.say(f"plan p {self.ring(24, 'may')}")
        desk.say(f"plan q {self.ring(25, 'may')}")
        desk.say("wish w at most 6 a and at most 6 b and at most 6 c")
        names = [one + two for one in "defg" for two in "abcdefghij"][:37]
        for place, name in enumerate(names):
            work = ("meet", "beside", "over")[place % 3]
            self.assertEqual(desk.say(f"{work} {name} p q"), "ok")
        for place, name in enumerate(names):
            word = ("within", "alike", "within", "within")[place % 4]
            self.assertEqual(desk.say(f"claim {word} {name} {names[place - 1]}"), str(place + 1))
        for name in ("w", "p", "q"):
            desk.say(f"claim some {name}")
        self.assertEqual(len(desk.say("names").split(" ")), 40)
        told = desk.say("claims").split("; ")
        self.assertEqual(len(told), 40)
        for time in range(3):
            desk.say(f"change p {self.ring(23, 'must')}")
            desk.say("claims")
            desk.say(f"change p {self.ring(24, 'may')}")
            self.assertEqual(desk.say("claims").split("; "), told)

    def test_each_made_of_all_below(self):
        # Reckoned name by name: gone over anew at each place where it is leant on there would be two to the 38th.
        desk = Desk(NAMES)
        desk.say(f"plan p {self.ring(24, 'may')}")
        last = ["p", "p"]
        for one in "abcd":
            for two in "abcdefghi":
                desk.say(f"meet {one}{two} {last[-1]} {last[-2]}")
                last.append(one + two)
        self.assertEqual(desk.say(f"claim alike {last[-1]} p"), "1")
        self.assertEqual(desk.say("claims"), "1 yes")
        desk.say("change p x: a may x, b may y; y: a must x")
        self.assertEqual(desk.say(f"show {last[-1]}"), "r0: a may r0, b may r1; r1: a must r0")
        self.assertEqual(desk.say(f"alike {last[-1]} p"), "yes")

    def test_long_lines(self):
        desk = Desk(["a"])
        names = [f"{one}{two}" for one in "abcdefghijklmnopqrst" for two in "abcdefghijklmnopqrstuvwxyz0123456789"]
        text = "; ".join(f"{name}:" for name in names)
        self.assertGreater(len(text), 3500)
        self.assertEqual(desk.say(f"plan p {text}"), "ok")
        self.assertEqual(desk.say("show p").count(":"), 720)
        self.assertEqual(desk.say("within p p"), "yes")
        self.assertEqual(desk.say("after p" + " a" * 1990), "none")


if __name__ == "__main__":
    unittest.main()
