"""Rooms that contradict themselves, and drafts cleaned of them."""

from mustmay.doors import Shut
from mustmay.least import least, sources_of
from mustmay.plans import Plan, is_room


def must_ends(doors):
    return [door.to for door in doors if door.word() == "must"]


def has_torn(doors):
    return any([door.word() == "torn" for door in doors])


def ranks_of(draft):
    sources = sources_of([must_ends(doors) for doors in draft.rooms])
    order = [room for room, doors in enumerate(draft.rooms) if has_torn(doors)]
    ranks = dict([(room, 0) for room in order])
    at = 0
    while at < len(order):
        rank = ranks[order[at]] + 1
        for source in sources[order[at]]:
            if source not in ranks:
                ranks[source] = rank
                order.append(source)
        at += 1
    return ranks


# A torn door counts as if it led to a room of rank -1. So a room of whatever
# rank has a door with a rank less by just 1 behind it.
def rank_behind(door, ranks):
    if door.word() == "torn":
        return -1
    if door.word() == "must":
        return ranks.get(door.to)
    return None


def torn_action(doors, ranks, rank):
    behind = [rank_behind(door, ranks) for door in doors]
    return behind.index(rank - 1)


def torn_row(draft):
    ranks = ranks_of(draft)
    order = sorted([(rank, room) for room, rank in ranks.items()])
    return [(room, rank, torn_action(draft.rooms[room], ranks, rank)) for rank, room in order]


def is_borne_out(draft, row, ranks):
    room = row[0]
    rank = row[1]
    action = row[2]
    if not is_room(room, draft.many()) or not 0 <= action < len(draft.actions) or rank < 0:
        return False
    behind = rank_behind(draft.rooms[room][action], ranks)
    return behind is not None and behind < rank


def is_torn_row(draft, rows):
    ranks = {}
    for room, rank, action in rows:
        ranks[room] = min(ranks.get(room, rank), rank)
    return all([is_borne_out(draft, row, ranks) for row in rows])


def kept_door(door, numbers):
    if door.to not in numbers:
        return Shut()
    return door.led(numbers[door.to])


def kept_room(doors, numbers):
    return [kept_door(door, numbers).told() for door in doors]


# The rooms that stay lead to one another alone: a must door to a room that goes
# would make its own room go.
def cleaned(draft):
    ranks = ranks_of(draft)
    if 0 in ranks:
        return None
    kept = [room for room in range(draft.many()) if room not in ranks]
    numbers = dict([(old, new) for new, old in enumerate(kept)])
    return least(Plan(draft.action_list(), [kept_room(draft.rooms[room], numbers) for room in kept]))
