"""Drafts and plans: rooms with a door for each action, begun at room 0."""

from mustmay.doors import door_of
from mustmay.errors import BadPlan, Unlike

LETTERS = "abcdefghijklmnopqrstuvwxyz"
MOST_SIGNS = 8
MOST_ACTIONS = 8
MOST_ROOMS = 2000


def is_name(thing):
    if not isinstance(thing, str) or not 1 <= len(thing) <= MOST_SIGNS:
        return False
    return all([sign in LETTERS for sign in thing])


def is_action_list(thing):
    if not isinstance(thing, list) or not 1 <= len(thing) <= MOST_ACTIONS:
        return False
    # Only names are sure to fit into a set: anything may have been handed in.
    return all([is_name(name) for name in thing]) and len(set(thing)) == len(thing)


def need_actions(actions):
    if not is_action_list(actions):
        raise BadPlan(-1, -1)


def is_room(thing, many):
    # Python counts truths among the ints.
    return isinstance(thing, int) and not isinstance(thing, bool) and 0 <= thing < many


def is_told_door(thing, many, torn_too):
    if not isinstance(thing, tuple) or len(thing) != 2:
        return False
    word = thing[0]
    # A thing of a kind of its own could call itself equal to any word.
    if not isinstance(word, str):
        return False
    if word == "must" or word == "may":
        return is_room(thing[1], many)
    return thing[1] is None and (word == "shut" or (word == "torn" and torn_too))


def need_rooms(rows, many_actions, torn_too):
    if not isinstance(rows, list) or not 1 <= len(rows) <= MOST_ROOMS:
        raise BadPlan(-1, -1)
    for room, row in enumerate(rows):
        if not isinstance(row, list) or len(row) != many_actions:
            raise BadPlan(room, -1)
        for action, thing in enumerate(row):
            if not is_told_door(thing, len(rows), torn_too):
                raise BadPlan(room, action)


def made_door(told):
    word = told[0]
    return door_of(word in ("must", "torn"), word in ("must", "may"), told[1])


def made_room(row):
    return tuple([made_door(told) for told in row])


def told_room(doors):
    return [door.told() for door in doors]


def is_finished_room(doors):
    return all([door.word() in ("must", "shut") for door in doors])


class Draft:
    def __init__(self, actions, rows):
        need_actions(actions)
        need_rooms(rows, len(actions), self.lets_torn())
        self.actions = tuple(actions)
        self.rooms = tuple([made_room(row) for row in rows])

    # Asked while the doors are looked at one by one, so that a torn door of a
    # plan is refused in its turn, not behind what is wrong further on.
    def lets_torn(self):
        return True

    def action_list(self):
        return list(self.actions)

    def many(self):
        return len(self.rooms)

    def door(self, room, action):
        kept = self.rooms[room][action]
        # The asker gets a door of his own, so that the kept one never changes.
        return kept.led(kept.to)

    def told(self):
        return [told_room(doors) for doors in self.rooms]

    def after(self, row):
        room = 0
        for action in row:
            door = self.rooms[room][action]
            if not door.allows():
                return None
            room = door.to
        return room

    def is_finished(self):
        return all([is_finished_room(doors) for doors in self.rooms])


class Plan(Draft):
    def lets_torn(self):
        return False


def need_same(one, other):
    if one.action_list() != other.action_list():
        raise Unlike("the lists of actions are not equal")


def led_room(doors, numbers):
    return [door.led(numbers.get(door.to)).told() for door in doors]


def begun(plan, room):
    order = [room] + [old for old in range(plan.many()) if old != room]
    numbers = dict([(old, new) for new, old in enumerate(order)])
    return Plan(plan.action_list(), [led_room(plan.rooms[old], numbers) for old in order])


def free_plan(actions):
    need_actions(actions)
    return Plan(actions, [[("may", 0) for name in actions]])


def word_after(plan, row, action):
    room = plan.after(row)
    if room is None:
        return None
    return plan.door(room, action).word()
