"""The meeting of two plans: what both let be, and either needs."""

from mustmay.cleaning import cleaned
from mustmay.least import least
from mustmay.plans import Draft, need_same
from mustmay.spots import joint_door, need_few_pairs, paired


def met_door(door, other):
    return joint_door(door.needs() or other.needs(), door, other)


def meeting(one, other):
    need_same(one, other)
    need_few_pairs(one, other)
    gone = paired(one, other, met_door)
    return (Draft(one.action_list(), gone[0]), gone[1])


def met(one, other):
    return cleaned(meeting(least(one), least(other))[0])
