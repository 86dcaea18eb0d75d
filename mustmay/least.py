"""Rooms that are alike, what parts two rooms, and the least plan."""

from mustmay.plans import Plan, led_room, need_same


def reached(plan):
    order = [0]
    seen = {0: True}
    at = 0
    while at < len(order):
        for door in plan.rooms[order[at]]:
            if door.allows() and door.to not in seen:
                seen[door.to] = True
                order.append(door.to)
        at += 1
    return order


def words_of(doors):
    return tuple([door.word() for door in doors])


def ends_of(doors):
    return [door.to for door in doors if door.allows()]


def sources_of(ends):
    sources = [[] for rooms in ends]
    for room, rooms in enumerate(ends):
        for to in rooms:
            sources[to].append(room)
    return sources


def numbered(things):
    numbers = {}
    for thing in things:
        numbers.setdefault(thing, len(numbers))
    return [numbers[thing] for thing in things]


def rest_of(block, parts):
    left_out = {}
    for part in parts:
        for room in part:
            left_out[room] = True
    return [room for room in block if room not in left_out]


# The rooms stand in blocks, each of which has a mark. At first all rooms of
# a block have the same words; round by round those go apart whose doors lead
# to other blocks.
class Blocks:
    def __init__(self, plan):
        self.ends = [ends_of(doors) for doors in plan.rooms]
        self.sources = sources_of(self.ends)
        self.marks = numbered([words_of(doors) for doors in plan.rooms])
        self.members = [{} for mark in range(max(self.marks) + 1)]
        for room, mark in enumerate(self.marks):
            self.members[mark][room] = True

    # Only of rooms whose doors lead to rooms with new marks: all others of
    # their blocks lead to where they led before, and so stay together.
    def grouped(self, rooms):
        found = {}
        for room in rooms:
            ends = tuple([self.marks[to] for to in self.ends[room]])
            found.setdefault(self.marks[room], {}).setdefault(ends, []).append(room)
        return [list(parts.values()) for parts in found.values()]

    # The largest part keeps the mark. So a room that gets a new one comes into
    # a block of half the size at most, and that is soon at an end.
    def leaving(self, parts):
        block = self.members[self.marks[parts[0][0]]]
        rest = len(block) - sum([len(part) for part in parts])
        largest = max(parts, key=len)
        if rest >= len(largest):
            return parts
        others = [part for part in parts if part[0] != largest[0]]
        if rest > 0:
            others.append(rest_of(block, parts))
        return others

    def move(self, rooms):
        mark = len(self.members)
        self.members.append({})
        for room in rooms:
            self.members[self.marks[room]].pop(room)
            self.members[mark][room] = True
            self.marks[room] = mark

    def part(self, rooms):
        moved = []
        for parts in self.grouped(rooms):
            for group in self.leaving(parts):
                self.move(group)
                moved.extend(group)
        return moved

    def leading_to(self, rooms):
        found = {}
        for room in rooms:
            for source in self.sources[room]:
                found[source] = True
        return list(found)


def classes(plan):
    blocks = Blocks(plan)
    rooms = list(range(plan.many()))
    while rooms != []:
        rooms = blocks.leading_to(blocks.part(rooms))
    firsts = {}
    for room, mark in enumerate(blocks.marks):
        firsts.setdefault(mark, room)
    return [firsts[mark] for mark in blocks.marks]


# Pairs in the order in which they were come to, each with the place of the pair
# from which, and the action by which.
class Trail:
    def __init__(self, first):
        self.pairs = [first]
        self.places = [0]
        self.steps = [0]

    def come(self, pair, place, action):
        self.pairs.append(pair)
        self.places.append(place)
        self.steps.append(action)

    def row(self, place):
        row = []
        while place > 0:
            row.append(self.steps[place])
            place = self.places[place]
        row.reverse()
        return row


def head_of(heads, room):
    while heads[room] != room:
        heads[room] = heads[heads[room]]
        room = heads[room]
    return room


def joined(heads, one, other):
    head = head_of(heads, one)
    last = head_of(heads, other)
    heads[head] = last
    return head != last


def first_unlike(doors, others):
    for action, door in enumerate(doors):
        if door.word() != others[action].word():
            return action
    return None


# Two rooms that earlier pairs join already need not be looked at: what parts
# them parts one of those pairs too, by a row that is no longer, and what comes
# to that pair comes first. So there are fewer pairs than rooms.
def parting(plan, room, other):
    heads = list(range(plan.many()))
    joined(heads, room, other)
    trail = Trail((room, other))
    at = 0
    while at < len(trail.pairs):
        doors = plan.rooms[trail.pairs[at][0]]
        others = plan.rooms[trail.pairs[at][1]]
        unlike = first_unlike(doors, others)
        if unlike is not None:
            return (trail.row(at), unlike)
        for action, door in enumerate(doors):
            to = others[action].to
            if door.allows() and joined(heads, door.to, to):
                trail.come((door.to, to), at, action)
        at += 1
    return None


def least(plan):
    firsts = classes(plan)
    order = reached(plan)
    marks = numbered([firsts[room] for room in order])
    numbers = dict(zip(order, marks))
    rows = []
    for room, mark in zip(order, marks):
        if mark == len(rows):
            rows.append(led_room(plan.rooms[room], numbers))
    return Plan(plan.action_list(), rows)


def alike(one, other):
    need_same(one, other)
    return least(one).told() == least(other).told()
