"""A whole divided by a part: what may stand beside the part, so that both together are within the whole."""

from mustmay.cleaning import cleaned
from mustmay.doors import May, door_of
from mustmay.halls import hall_along, need_few
from mustmay.least import Trail, least
from mustmay.plans import Draft, need_same
from mustmay.spots import doors_between, gone_through, need_few_pairs


# The spot of the free room is None, where every other one is a pair of rooms.
def divided_door(door, its):
    pair = (door.to, its.to)
    # A hall that fits the part may lack what the part doesn't need.
    if door.needs():
        return door_of(True, its.needs(), pair)
    # What the part never does, the two never do together: so nothing behind it matters.
    if not its.allows():
        return May(None)
    return door_of(False, door.allows(), pair)


def division(whole, part):
    need_same(whole, part)
    need_few_pairs(whole, part)
    actions = whole.action_list()

    def doors_at(spot):
        if spot is None:
            return [May(None) for name in actions]
        return doors_between(whole, part, spot, divided_door)

    gone = gone_through(doors_at)
    return (Draft(actions, gone[0]), gone[1])


def over(whole, part):
    return cleaned(division(least(whole), least(part))[0])


# Tells whether the hall that spoils has the door here; None where no hall that
# fits the part spoils anything by this door.
def spoiling(wide, its, door):
    if door.allows() and its.allows() and not wide.allows():
        return True
    if wide.needs() and not (door.allows() and its.needs()):
        return its.needs()
    return None


def first_spoiling(doors):
    for action, three in enumerate(doors):
        has = spoiling(three[0], three[1], three[2])
        if has is not None:
            return (action, has)
    return None


# Of rooms where nothing is spoiled: so the whole allows what the others do.
def led_on(three):
    if not three[1].allows() or not three[2].allows():
        return None
    return (three[0].to, three[1].to, three[2].to)


# The whole over the part is not asked: it is refused for fewer rooms than a
# spoiler is.
def spoiler(whole, part, hall):
    need_same(whole, part)
    need_same(whole, hall)
    wide = least(whole)
    small = least(part)
    built = least(hall)
    need_few(wide.many() * small.many() * built.many() + small.many())
    trail = Trail((0, 0, 0))
    seen = {(0, 0, 0): True}
    at = 0
    while at < len(trail.pairs):
        spot = trail.pairs[at]
        doors = list(zip(wide.rooms[spot[0]], small.rooms[spot[1]], built.rooms[spot[2]]))
        found = first_spoiling(doors)
        if found is not None:
            row = trail.row(at)
            return (hall_along(small, row, found[0], found[1]), row, found[0])
        for action, three in enumerate(doors):
            to = led_on(three)
            if to is not None and to not in seen:
                seen[to] = True
                trail.come(to, at, action)
        at += 1
    return None
