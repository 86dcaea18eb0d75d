"""Drafts whose rooms are pairs of rooms of two plans, gone through from (0, 0) on."""

from mustmay.doors import door_of
from mustmay.errors import TooMany

MOST_PAIRS = 600


def need_few_pairs(one, other):
    if one.many() * other.many() > MOST_PAIRS:
        raise TooMany("there could be more than 600 pairs of rooms")


# A spot is what a room of the draft stands for. Spots are numbered in the order
# in which they were first come to.
class Spots:
    def __init__(self):
        self.order = [(0, 0)]
        self.numbers = {(0, 0): 0}

    def number_of(self, spot):
        if spot not in self.numbers:
            self.numbers[spot] = len(self.order)
            self.order.append(spot)
        return self.numbers[spot]

    # The doors lead to spots; what is told of them leads to their numbers.
    def room_of(self, doors):
        room = []
        for door in doors:
            to = self.number_of(door.to) if door.allows() else None
            room.append(door.led(to).told())
        return room


def gone_through(doors_at):
    spots = Spots()
    rows = []
    while len(rows) < len(spots.order):
        rows.append(spots.room_of(doors_at(spots.order[len(rows)])))
    return (rows, spots.order)


def joint_door(needs, door, other):
    return door_of(needs, door.allows() and other.allows(), (door.to, other.to))


def doors_between(one, other, pair, door_between):
    return [door_between(door, its) for door, its in zip(one.rooms[pair[0]], other.rooms[pair[1]])]


def paired(one, other, door_between):
    def doors_at(pair):
        return doors_between(one, other, pair, door_between)

    return gone_through(doors_at)
