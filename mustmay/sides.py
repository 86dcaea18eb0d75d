"""Two plans side by side: what both do together."""

from mustmay.least import least
from mustmay.plans import Plan, need_same
from mustmay.spots import joint_door, need_few_pairs, paired


def side_door(door, other):
    return joint_door(door.needs() and other.needs(), door, other)


def beside(one, other):
    need_same(one, other)
    small = least(one)
    its = least(other)
    need_few_pairs(small, its)
    return least(Plan(one.action_list(), paired(small, its, side_door)[0]))
