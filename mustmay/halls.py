"""Halls that fit a plan, and halls that tell plans or rooms apart."""

from mustmay.doors import door_of
from mustmay.errors import NoWay, TooMany
from mustmay.least import least
from mustmay.pairs import row_apart
from mustmay.plans import MOST_ROOMS, Plan, begun, need_same


def hall_door(door, words):
    there = door.word() in words
    return door_of(there, there, door.to).told()


def hall_room(doors, words):
    return [hall_door(door, words) for door in doors]


def hall_of(plan, words):
    return Plan(plan.action_list(), [hall_room(doors, words) for doors in plan.rooms])


def least_hall(plan):
    return hall_of(plan, ("must",))


def fullest_hall(plan):
    return hall_of(plan, ("must", "may"))


def need_few(many):
    if many > MOST_ROOMS:
        raise TooMany("there would be more than 2,000 rooms")


def rooms_along(plan, row):
    rooms = [0]
    for place, action in enumerate(row):
        door = plan.door(rooms[place], action)
        if not door.allows():
            raise NoWay(place)
        rooms.append(door.to)
    return rooms


def need_end(door, has, length):
    if (has and not door.allows()) or (door.needs() and not has):
        raise NoWay(length)


def moved_room(row, by):
    return [(word, to) if to is None else (word, to + by) for word, to in row]


# The plan's least plan stands in the place of the plan: so there are as few
# rooms as were reckoned with.
def hall_along(plan, row, action, has):
    small = least(plan)
    first = len(row) + 1
    need_few(first + small.many())
    rooms = rooms_along(small, row)
    last = small.door(rooms[-1], action)
    need_end(last, has, len(row))
    behind = [moved_room(doors, first) for doors in least_hall(small).told()]
    ahead = [list(behind[room]) for room in rooms]
    for place, step in enumerate(row):
        ahead[place][step] = ("must", place + 1)
    if has:
        ahead[-1][action] = ("must", last.to + first)
    return least(Plan(plan.action_list(), ahead + behind))


def hall_apart(one, other):
    need_same(one, other)
    small = least(one)
    against = least(other)
    need_few(small.many() * against.many() + small.many())
    apart = row_apart(small, against)
    if apart is None:
        return None
    row = apart[0]
    action = apart[1]
    return (hall_along(small, row, action, apart[2] == "extra"), row, action)


def rooms_apart(plan, room, other):
    one = begun(plan, room)
    two = begun(plan, other)
    apart = hall_apart(one, two)
    if apart is not None:
        return (apart[0], room)
    apart = hall_apart(two, one)
    if apart is not None:
        return (apart[0], other)
    return None
