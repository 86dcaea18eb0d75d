"""Plans held against one another, at pairs of a room of the one and a room of the other."""

from mustmay.least import Trail
from mustmay.plans import need_same

WORDS = ("extra", "lacks")


def bits_of(truths):
    bits = 0
    worth = 1
    for truth in truths:
        if truth:
            bits += worth
        worth += worth
    return bits


# Each action has two bits, one for each of the words of a fault. There is a
# fault where a risk of the one's room meets a bar of the other's.
def risks_of(doors):
    truths = []
    for door in doors:
        truths.extend([door.allows(), not door.needs()])
    return bits_of(truths)


def bars_of(doors):
    truths = []
    for door in doors:
        truths.extend([not door.allows(), door.needs()])
    return bits_of(truths)


def first_fault(bits):
    if bits == 0:
        return None
    place = 0
    while bits % 2 == 0:
        bits = bits // 2
        place += 1
    return (place // 2, WORDS[place % 2])


def fault_at(one, room, other, place):
    need_same(one, other)
    return first_fault(risks_of(one.rooms[room]) & bars_of(other.rooms[place]))


def starts_of(doors, width):
    return [door.to * width if door.allows() else None for door in doors]


def tos_of(doors):
    return [door.to for door in doors]


# A pair of rooms is told by one number, as there may be a million of them.
class Against:
    def __init__(self, one, other):
        need_same(one, other)
        self.height = one.many()
        self.width = other.many()
        self.risks = [risks_of(doors) for doors in one.rooms]
        self.bars = [bars_of(doors) for doors in other.rooms]
        self.starts = [starts_of(doors, self.width) for doors in one.rooms]
        self.tos = [tos_of(doors) for doors in other.rooms]

    def number(self, room, place):
        return room * self.width + place

    def is_there(self, room, place):
        return 0 <= room < self.height and 0 <= place < self.width

    def none_of_all(self):
        return [False] * (self.height * self.width)

    def faults(self, pair):
        return self.risks[pair // self.width] & self.bars[pair % self.width]

    # Of a pair without a fault: so the other allows what the one allows.
    def behind(self, pair):
        starts = self.starts[pair // self.width]
        tos = self.tos[pair % self.width]
        return [None if start is None else start + to for start, to in zip(starts, tos)]

    def told(self, pair):
        return (pair // self.width, pair % self.width)


# Tells the place of the first pair with a fault. Pairs are come to in the order
# of the least rows that come to them, the shorter ones first.
def followed(against, trail):
    pairs = trail.pairs
    seen = against.none_of_all()
    seen[0] = True
    at = 0
    while at < len(pairs):
        if against.faults(pairs[at]) != 0:
            return at
        for action, pair in enumerate(against.behind(pairs[at])):
            if pair is not None and not seen[pair]:
                seen[pair] = True
                trail.come(pair, at, action)
        at += 1
    return None


def table_of(one, other):
    against = Against(one, other)
    trail = Trail(0)
    if followed(against, trail) is not None:
        return None
    return [against.told(pair) for pair in trail.pairs]


def within(one, other):
    return followed(Against(one, other), Trail(0)) is None


def row_apart(one, other):
    against = Against(one, other)
    trail = Trail(0)
    at = followed(against, trail)
    if at is None:
        return None
    fault = first_fault(against.faults(trail.pairs[at]))
    return (trail.row(at), fault[0], fault[1])


def is_held(against, pair, stands):
    if against.faults(pair) != 0:
        return False
    return all([behind is None or stands[behind] for behind in against.behind(pair)])


def is_table(one, other, table):
    against = Against(one, other)
    stands = against.none_of_all()
    for room, place in table:
        if not against.is_there(room, place):
            return False
        stands[against.number(room, place)] = True
    for room, place in table:
        if not is_held(against, against.number(room, place), stands):
            return False
    return stands[0]
