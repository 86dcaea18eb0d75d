import itertools
import random
import unittest

from mustmay.cleaning import cleaned, is_torn_row, torn_row
from mustmay.halls import fullest_hall, least_hall
from mustmay.least import least
from mustmay.plans import Draft, Plan
from samples import SHUT, TORN, all_drafts, all_halls, all_plans, doubled, draft_of, fits, may, must, plan_of
from samples import ring_plan, some_drafts, some_plans, told_of, words_at

# Room 2 is torn, 1 and 4 lead there, 0 leads to these; 3 may lead there; 5 and 6 lean on one another.
DRAFT = draft_of([
    [SHUT, must(4), must(1)],
    [may(0), must(2), SHUT],
    [SHUT, TORN, TORN],
    [may(2), must(3), may(0)],
    [must(2), must(0), must(2)],
    [must(6), SHUT, SHUT],
    [must(5), may(2), SHUT],
])
DRAFTS = all_drafts(2, 1) + all_drafts(1, 2) + all_drafts(3, 1) + some_drafts(60, 300, 6, 2) + some_drafts(61, 60, 9, 3)
DRAFTS += [DRAFT]


def doors_of(draft, room):
    return [draft.door(room, action) for action in range(len(draft.action_list()))]


def ranks_as_written(draft):
    """Promise 50: rank 0 where a door is torn, then rank by rank the rooms with a must door to the ranks before."""
    ranks = {room: 0 for room in range(draft.many()) if "torn" in words_at(draft, room)}
    for rank in range(1, draft.many() + 1):
        for room in range(draft.many()):
            behind = [ranks.get(door.to) for door in doors_of(draft, room) if door.word() == "must"]
            if room not in ranks and rank - 1 in behind:
                ranks[room] = rank
    return ranks


def torn_row_as_written(draft):
    ranks = ranks_as_written(draft)
    rows = []
    for room, rank in ranks.items():
        for action, door in reversed(list(enumerate(doors_of(draft, room)))):
            if rank == 0 and door.word() == "torn":
                first = action
            if rank > 0 and door.word() == "must" and ranks.get(door.to) == rank - 1:
                first = action
        rows.append((room, rank, first))
    return sorted(rows, key=lambda row: (row[1], row[0]))


def is_let_by(draft, rows):
    """Promise 52, word by word."""
    for room, rank, action in rows:
        if room not in range(draft.many()) or action not in range(len(draft.action_list())) or rank < 0:
            return False
        door = draft.door(room, action)
        lesser = [other for other, its, step in rows if its < rank]
        if door.word() != "torn" and not (door.word() == "must" and door.to in lesser):
            return False
    return True


class TornRowTest(unittest.TestCase):
    def check(self, rows, told):
        self.assertEqual(torn_row(draft_of(rows)), told)
        self.assertEqual(torn_row_as_written(draft_of(rows)), told)

    def test_without_torn_doors(self):
        self.check([[SHUT]], [])
        self.check([[must(0)]], [])
        self.check([[must(1), may(0)], [SHUT, must(0)]], [])

    def test_of_a_plan(self):
        for plan in all_plans(2, 1) + some_plans(62, 50, 5, 3):
            self.assertEqual(torn_row(plan), [])

    def test_one_torn_door(self):
        self.check([[TORN]], [(0, 0, 0)])
        self.check([[SHUT, TORN]], [(0, 0, 1)])
        self.check([[may(1)], [TORN]], [(1, 0, 0)])

    def test_the_first_torn_action(self):
        self.check([[SHUT, TORN, may(0), TORN]], [(0, 0, 1)])
        self.check([[TORN, TORN]], [(0, 0, 0)])

    def test_a_torn_door_behind_a_must_door_to_such_a_room(self):
        self.check([[must(1), TORN], [TORN, SHUT]], [(0, 0, 1), (1, 0, 0)])
        self.check([[must(0), TORN]], [(0, 0, 1)])

    def test_torn_doors_in_several_rooms(self):
        self.check([[TORN, SHUT], [may(0), may(2)], [SHUT, TORN], [TORN, TORN]], [(0, 0, 0), (2, 0, 1), (3, 0, 0)])

    def test_several_steps(self):
        self.check([[must(1)], [must(2)], [must(3)], [TORN]], [(3, 0, 0), (2, 1, 0), (1, 2, 0), (0, 3, 0)])

    def test_the_least_rank_of_several_ways(self):
        # Room 0 leads to rank 2 by its first door, to rank 0 by its second one.
        rows = [[must(1), must(3)], [SHUT, must(2)], [must(3), SHUT], [SHUT, TORN]]
        self.check(rows, [(3, 0, 1), (0, 1, 1), (2, 1, 0), (1, 2, 1)])

    def test_a_door_to_an_equal_rank_is_passed_by(self):
        rows = [[must(1), must(2)], [must(0), must(2)], [TORN, SHUT]]
        self.check(rows, [(2, 0, 0), (0, 1, 1), (1, 1, 1)])

    def test_the_first_of_several_actions_with_the_rank(self):
        self.check([[may(1), must(2), must(1)], [TORN, SHUT, SHUT], [SHUT, SHUT, TORN]], [(1, 0, 0), (2, 0, 2), (0, 1, 1)])

    def test_may_doors_alone(self):
        self.check([[may(1)], [TORN]], [(1, 0, 0)])
        self.check([[must(1)], [may(2)], [TORN]], [(2, 0, 0)])
        # A may door is passed by where a must door leads there, too.
        self.check([[may(1), must(1)], [TORN, SHUT]], [(1, 0, 0), (0, 1, 1)])

    def test_rings_without_a_torn_door(self):
        self.check([[must(0)]], [])
        self.check([[must(1)], [must(2)], [must(0)]], [])
        self.check([[must(1), may(3)], [must(2), SHUT], [must(0), SHUT], [TORN, SHUT]], [(3, 0, 0)])

    def test_rings_with_a_torn_door(self):
        self.check([[must(1), SHUT], [must(2), TORN], [must(0), SHUT]], [(1, 0, 1), (0, 1, 0), (2, 2, 0)])
        self.check([[must(1), SHUT], [must(0), must(2)], [TORN, SHUT]], [(2, 0, 0), (1, 1, 1), (0, 2, 0)])

    def test_rooms_that_no_row_comes_to(self):
        self.check([[SHUT], [must(2)], [TORN]], [(2, 0, 0), (1, 1, 0)])

    def test_the_order_is_by_rank_then_by_room(self):
        rows = [[must(5)], [must(4)], [must(3)], [TORN], [TORN], [must(3)]]
        self.check(rows, [(3, 0, 0), (4, 0, 0), (1, 1, 0), (2, 1, 0), (5, 1, 0), (0, 2, 0)])

    def test_the_sample(self):
        self.assertEqual(torn_row(DRAFT), [(2, 0, 1), (1, 1, 1), (4, 1, 0), (0, 2, 1)])

    def test_as_the_document_says(self):
        for draft in DRAFTS + all_drafts(2, 2):
            self.assertEqual(torn_row(draft), torn_row_as_written(draft), draft.told())

    def test_kinds(self):
        told = torn_row(DRAFT)
        self.assertIs(type(told), list)
        for row in told:
            self.assertIs(type(row), tuple)
            self.assertEqual([type(number) for number in row], [int] * 3)


class IsTornRowTest(unittest.TestCase):
    def let_by(self, rows, draft=DRAFT):
        self.assertIs(is_torn_row(draft, rows), True)
        self.assertTrue(is_let_by(draft, rows))

    def refused(self, rows, draft=DRAFT):
        self.assertIs(is_torn_row(draft, rows), False)
        self.assertFalse(is_let_by(draft, rows))

    def test_the_torn_row_itself(self):
        for draft in DRAFTS:
            self.assertIs(is_torn_row(draft, torn_row(draft)), True)

    def test_other_orders(self):
        for rows in itertools.permutations(torn_row(DRAFT)):
            self.let_by(list(rows))
        for draft in DRAFTS:
            self.assertIs(is_torn_row(draft, torn_row(draft)[::-1]), True)

    def test_tuples_twice(self):
        self.let_by(torn_row(DRAFT) * 2)
        self.let_by([(2, 0, 1), (2, 0, 1)])

    def test_a_room_several_times(self):
        self.let_by([(2, 0, 1), (2, 0, 2), (2, 7, 1), (4, 1, 0), (4, 1, 2), (4, 3, 0)])

    def test_the_empty_list(self):
        self.let_by([])
        self.let_by([], plan_of([[must(0)]]))

    def test_a_part_of_the_torn_row(self):
        self.let_by([(2, 0, 1)])
        self.let_by([(4, 1, 2), (2, 0, 2)])

    def test_what_is_leaned_on_is_missing(self):
        self.refused([(1, 1, 1)])
        self.refused(torn_row(DRAFT)[1:])

    def test_a_room_that_is_not_there(self):
        for room in (7, 8, 2000, -1, -5, -7):
            self.refused([(room, 0, 1)])
            self.refused(torn_row(DRAFT) + [(room, 0, 1)])
        # Counted from the end, room -5 would be the torn one.
        self.assertEqual(DRAFT.rooms[-5][1].word(), "torn")

    def test_an_action_that_is_not_there(self):
        for action in (3, 4, 100, -1, -2, -3):
            self.refused([(2, 0, action)])
            self.refused(torn_row(DRAFT) + [(2, 1, action)])

    def test_a_rank_beneath_0(self):
        self.refused([(2, -1, 1)])
        self.refused([(2, -1, 1), (2, 0, 1)])
        self.refused([(2, -1, 1), (4, 0, 0)])
        self.refused(torn_row(DRAFT) + [(2, -3, 1)])

    def test_higher_ranks_than_told(self):
        self.let_by([(2, 5, 1)])
        self.let_by([(2, 5, 1), (4, 6, 0), (0, 100, 1)])
        self.let_by([(2, 0, 1), (4, 40, 0), (0, 10 ** 30, 1)])

    def test_lesser_ranks_than_told(self):
        self.refused([(2, 0, 1), (4, 0, 0)])
        self.refused([(2, 0, 1), (4, 1, 0), (0, 1, 1)])

    def test_an_equal_or_a_higher_rank_behind_a_must_door(self):
        self.refused([(2, 1, 1), (4, 1, 0)])
        self.refused([(2, 2, 1), (4, 1, 0)])
        self.refused([(2, 1, 1), (2, 2, 2), (4, 1, 0)])

    def test_a_lesser_rank_in_one_of_several_tuples(self):
        for rows in itertools.permutations([(2, 9, 1), (2, 4, 2), (2, 7, 1), (4, 5, 0)]):
            self.let_by(list(rows))
        for rows in itertools.permutations([(2, 9, 1), (2, 5, 2), (2, 7, 1), (4, 5, 0)]):
            self.refused(list(rows))

    def test_a_may_door(self):
        self.refused([(2, 0, 1), (3, 1, 0)])
        self.refused([(3, 0, 0)])

    def test_a_shut_door(self):
        self.refused([(2, 0, 0)])
        self.refused([(2, 0, 1), (1, 1, 2)])
        self.refused([(2, 0, 1), (2, 1, 0)])

    def test_rooms_that_are_no_part_of_the_torn_row(self):
        self.refused([(5, 0, 0)])
        self.refused([(5, 1, 0), (6, 1, 0)])
        self.refused([(5, 1, 0), (6, 2, 0), (5, 3, 0)])
        self.refused([(2, 0, 1), (5, 1, 0), (6, 2, 1)])
        self.refused([(3, 1, 1), (3, 0, 1)])

    def test_a_ring_doesnt_bear_itself(self):
        ring = ring_plan(3, 1, must)
        for ranks in itertools.product(range(4), repeat=3):
            self.refused([(room, rank, 0) for room, rank in enumerate(ranks)], ring)

    def test_another_way_than_the_torn_row(self):
        # The first door leads round, but there is a lesser rank behind it.
        draft = draft_of([[must(1), must(2)], [must(2), SHUT], [SHUT, TORN]])
        self.let_by([(0, 2, 0), (1, 1, 0), (2, 0, 1)], draft)
        self.refused([(0, 1, 0), (1, 1, 0), (2, 0, 1)], draft)
        self.let_by([(0, 1, 1), (2, 0, 1)], draft)

    def test_all_small_lists(self):
        tuples = list(itertools.product(range(-1, 3), range(-1, 3), range(-1, 2)))
        for draft in all_drafts(2, 1):
            torn = [room for room, rank, action in torn_row(draft)]
            for rows in itertools.product(tuples, repeat=2):
                told = is_torn_row(draft, list(rows))
                self.assertIs(told, is_let_by(draft, rows), (draft.told(), rows))
                if told:
                    self.assertTrue(all(row[0] in torn for row in rows))

    def test_lists_by_chance(self):
        chance = random.Random(63)
        let = 0
        for draft in some_drafts(64, 400, 5, 2, ("must", "must", "must", "may", "torn")):
            torn = [room for room, rank, action in torn_row(draft)]
            for turn in range(20):
                rows = [(chance.randrange(draft.many()), chance.randrange(6), chance.randrange(2)) for row in range(6)]
                told = is_torn_row(draft, rows)
                self.assertIs(told, is_let_by(draft, rows), (draft.told(), rows))
                if told:
                    let += 1
                    self.assertTrue(all(row[0] in torn for row in rows))
        self.assertGreater(let, 50)


class CleanedTest(unittest.TestCase):
    def check(self, rows, told):
        plan = cleaned(draft_of(rows))
        self.assertIs(type(plan), Plan)
        self.assertEqual(plan.told(), told)

    def test_none(self):
        self.assertIsNone(cleaned(draft_of([[TORN]])))
        self.assertIsNone(cleaned(draft_of([[must(1)], [must(2)], [TORN]])))
        self.assertIsNone(cleaned(draft_of([[may(0), must(1)], [TORN, may(0)]])))
        self.assertIsNone(cleaned(DRAFT))

    def test_may_doors_become_shut(self):
        self.check([[may(1)], [TORN]], [[SHUT]])
        self.check([[may(1), may(0)], [TORN, SHUT]], [[SHUT, may(0)]])
        self.check([[may(1), must(2)], [SHUT, must(3)], [may(3), may(0)], [TORN, SHUT]], [[SHUT, must(1)], [SHUT, may(0)]])

    def test_must_doors_to_rooms_with_shut_doors_stay(self):
        self.check([[must(1)], [may(2)], [TORN]], [[must(1)], [SHUT]])

    def test_a_ring_of_must_doors_stays(self):
        self.check([[must(1), may(2)], [must(0), may(0)], [TORN, SHUT]], [[must(1), SHUT], [must(0), may(0)]])

    def test_a_room_that_is_come_to_only_through_such_a_door(self):
        # Room 2 could be come to through room 1 alone.
        self.check([[may(1), must(0)], [may(2), TORN], [must(2), must(2)]], [[SHUT, must(0)]])

    def test_a_room_that_is_come_to_another_way_too(self):
        rows = [[may(1), may(2)], [may(2), TORN], [must(2), must(2)]]
        self.check(rows, [[SHUT, may(1)], [must(1), must(1)]])

    def test_torn_rooms_that_no_row_comes_to(self):
        self.check([[must(0)], [TORN]], [[must(0)]])
        self.check([[must(2)], [TORN], [may(0)], [must(1)]], [[must(1)], [may(0)]])

    def test_rooms_that_become_alike(self):
        # Room 1's may door becomes shut: so it is like room 2.
        self.check([[must(1), must(2)], [may(3), SHUT], [SHUT, SHUT], [TORN, SHUT]], [[must(1), must(1)], [SHUT, SHUT]])

    def test_the_order_of_the_rooms(self):
        # Behind the shut door b comes first to what a would have come to.
        rows = [[may(3), may(2), may(1)], [SHUT, must(1), SHUT], [SHUT, SHUT, may(0)], [TORN, may(1), SHUT]]
        self.check(rows, [[SHUT, may(1), may(2)], [SHUT, SHUT, may(0)], [SHUT, must(2), SHUT]])

    def test_a_plan_cleaned_is_its_least_plan(self):
        for plan in all_plans(2, 1) + some_plans(65, 100, 6, 2) + some_plans(66, 30, 9, 3):
            self.assertEqual(cleaned(plan).told(), least(plan).told())
            self.assertEqual(cleaned(doubled(plan)).told(), least(plan).told())
            self.assertEqual(cleaned(Draft(plan.action_list(), plan.told())).told(), least(plan).told())

    def test_the_actions_stay(self):
        self.assertEqual(cleaned(Draft(["z", "b"], [[may(1), TORN], [SHUT, SHUT]])), None)
        self.assertEqual(cleaned(Draft(["z", "b"], [[may(1), must(0)], [TORN, SHUT]])).action_list(), ["z", "b"])

    def check_halls(self, draft, halls):
        plan = cleaned(draft)
        self.assertEqual(plan is None, 0 in ranks_as_written(draft), draft.told())
        for hall in halls:
            self.assertEqual(fits(hall, draft), plan is not None and fits(hall, plan), (draft.told(), hall.told()))
        if plan is not None:
            self.assertEqual(least(plan).told(), plan.told())
            self.assertTrue(fits(least_hall(plan), draft))
            self.assertTrue(fits(fullest_hall(plan), draft))

    def test_just_the_halls_that_the_document_says(self):
        halls = all_halls(1, 1) + all_halls(2, 1) + all_halls(3, 1)
        for draft in all_drafts(1, 1) + all_drafts(2, 1) + all_drafts(3, 1):
            self.check_halls(draft, halls)
        halls = all_halls(1, 2) + all_halls(2, 2)
        for draft in all_drafts(1, 2) + all_drafts(2, 2) + some_drafts(67, 300, 5, 2):
            self.check_halls(draft, halls)

    def test_what_is_told_of_each_row(self):
        # A row can be gone that can be gone in the draft, and comes by no room that contradicts itself.
        for draft in DRAFTS:
            plan = cleaned(draft)
            ranks = ranks_as_written(draft)
            left = [] if plan is None else [(0, 0)]
            seen = set(left)
            while left:
                room, place = left.pop()
                self.assertNotIn(place, ranks)
                for door, its in zip(doors_of(plan, room), doors_of(draft, place)):
                    gone = its.word() == "may" and its.to in ranks
                    self.assertEqual(door.word(), "shut" if gone else its.word())
                    if door.allows() and (door.to, its.to) not in seen:
                        seen.add((door.to, its.to))
                        left.append((door.to, its.to))


class OwnListsTest(unittest.TestCase):
    def test_what_is_handed_in_stays(self):
        before = DRAFT.told()
        rows = torn_row(DRAFT)
        kept = list(rows)
        is_torn_row(DRAFT, rows)
        cleaned(DRAFT)
        self.assertEqual(rows, kept)
        self.assertEqual(DRAFT.told(), before)

    def test_told_lists_are_the_askers_own(self):
        rows = torn_row(DRAFT)
        kept = list(rows)
        self.assertIsNot(torn_row(DRAFT), rows)
        rows.reverse()
        rows.append((0, 0, 0))
        self.assertEqual(torn_row(DRAFT), kept)
        torn_row(plan_of([[SHUT]])).append((0, 0, 0))
        self.assertEqual(torn_row(plan_of([[SHUT]])), [])

    def test_a_cleaned_plan_stands_by_itself(self):
        rows = [[may(1), must(0)], [TORN, SHUT]]
        draft = draft_of(rows)
        plan = cleaned(draft)
        rows[0][0] = SHUT
        plan.told()[0].clear()
        self.assertEqual(told_of(plan), [[SHUT, must(0)]])
        self.assertEqual(draft.told(), [[may(1), must(0)], [TORN, SHUT]])


if __name__ == "__main__":
    unittest.main()
