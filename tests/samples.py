"""Plans to try things on, and what the document says of rows, told in the plainest way."""

import itertools
import random

from mustmay.plans import Draft, Plan
from mustmay.texts import plan_text

SHUT = ("shut", None)
TORN = ("torn", None)
NAMES = list("abcdefgh")


def must(to):
    return ("must", to)


def may(to):
    return ("may", to)


def plan_of(rows):
    return Plan(NAMES[:len(rows[0])], rows)


def draft_of(rows):
    return Draft(NAMES[:len(rows[0])], rows)


def line_plan(many, door=may, last=SHUT):
    """Rooms in a line, no two of them alike."""
    return plan_of([[door(room + 1)] for room in range(many - 1)] + [[last]])


def ring_plan(many, actions, door=may):
    """All of its rooms are alike."""
    return plan_of([[door((room + step + 1) % many) for step in range(actions)] for room in range(many)])


def full_plan(actions):
    """The plan in which all must be done."""
    return Plan(actions, [[must(0) for name in actions]])


def line_halls(longest):
    """Up to being alike, all halls over one action with rows of up to a length, and the one without an end."""
    return [line_plan(many, must) for many in range(1, longest + 2)] + [full_plan(["a"])]


def unlike_pairs():
    """Plans whose lists of actions are not equal, in both orders."""
    one = plan_of([[may(0), may(0)]])
    lists = (["a"], ["b", "a"], ["a", "c"], ["a", "b", "c"])
    others = [Plan(names, [[may(0)] * len(names)]) for names in lists]
    return [(one, other) for other in others] + [(other, one) for other in others]


def doubled(plan):
    """A plan alike to another one, with a second room for each of its rooms, and one that no row comes to."""
    many = plan.many()
    rows = plan.told()
    first = [[(word, None if to is None else to + many) for word, to in row] for row in rows]
    return plan_of(first + rows + [[must(0) for name in plan.action_list()]])


def all_rows(rooms, actions, doors):
    rows = [list(row) for row in itertools.product(doors, repeat=actions)]
    return [list(told) for told in itertools.product(rows, repeat=rooms)]


def all_halls(rooms, actions):
    return [plan_of(rows) for rows in all_rows(rooms, actions, [SHUT] + [must(to) for to in range(rooms)])]


def all_plans(rooms, actions):
    doors = [SHUT] + [must(to) for to in range(rooms)] + [may(to) for to in range(rooms)]
    return [plan_of(rows) for rows in all_rows(rooms, actions, doors)]


def all_drafts(rooms, actions):
    doors = [SHUT, TORN] + [must(to) for to in range(rooms)] + [may(to) for to in range(rooms)]
    return [draft_of(rows) for rows in all_rows(rooms, actions, doors)]


def some_rows(seed, many, most_rooms, actions, words):
    chance = random.Random(seed)

    def door(rooms):
        word = chance.choice(words)
        return (word, None) if word in ("shut", "torn") else (word, chance.randrange(rooms))

    told = []
    while len(told) < many:
        rooms = chance.randint(1, most_rooms)
        told.append([[door(rooms) for action in range(actions)] for room in range(rooms)])
    return told


def some_plans(seed, many, most_rooms, actions, words=("must", "may", "shut")):
    return [plan_of(rows) for rows in some_rows(seed, many, most_rooms, actions, words)]


def some_drafts(seed, many, most_rooms, actions, words=("must", "must", "may", "may", "shut", "torn")):
    return [draft_of(rows) for rows in some_rows(seed, many, most_rooms, actions, words)]


def words_at(plan, room):
    return [plan.door(room, action).word() for action in range(len(plan.action_list()))]


def gone_rows(plan, longest, room=0):
    """All rows that can be gone from a room, with the rooms they come to, the shortest and first ones first."""
    level = [([], room)]
    for length in range(longest + 1):
        yield from level
        level = [
            (row + [action], plan.door(at, action).to)
            for row, at in level
            for action in range(len(plan.action_list()))
            if plan.door(at, action).allows()
        ]


def told_apart(one, other, longest, room=0, place=0):
    """The first row that both can go and behind which words differ, with the first such action."""
    level = [([], room, place)]
    for length in range(longest + 1):
        for row, at, its in level:
            mine, theirs = words_at(one, at), words_at(other, its)
            for action, word in enumerate(mine):
                if word != theirs[action]:
                    return (row, action)
        level = [
            (row + [action], one.door(at, action).to, other.door(its, action).to)
            for row, at, its in level
            for action, word in enumerate(words_at(one, at))
            if word != "shut"
        ]
    return None


def is_within(one, other, longest):
    """Promise 3, word by word, for the rows up to a length."""
    for row, room in gone_rows(one, longest):
        place = other.after(row)
        if place is None:
            return False
        for mine, its in zip(words_at(one, room), words_at(other, place)):
            if mine in ("must", "may") and its == "shut":
                return False
            if its == "must" and mine != "must":
                return False
    return True


def fits(hall, draft):
    """Whether a hall goes only where the draft lets it, has no door that the draft doesn't allow, and all it needs."""
    left = [(0, 0)]
    seen = set(left)
    while left:
        room, place = left.pop()
        for action, word in enumerate(words_at(hall, room)):
            door = draft.door(place, action)
            if (word == "must" and not door.allows()) or (word == "shut" and door.needs()):
                return False
            pair = (hall.door(room, action).to, door.to)
            if word == "must" and pair not in seen:
                seen.add(pair)
                left.append(pair)
    return True


def told_of(plan):
    """What is told of a plan, or None for nothing."""
    return None if plan is None else plan.told()


def rooms_of(plan):
    """How a desk writes a plan, or nothing."""
    return "nothing" if plan is None else "; ".join(plan_text(plan).split("\n")[1:])
