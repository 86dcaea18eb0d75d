"""What is answered of plans, where None stands for nothing."""

from mustmay.halls import hall_apart, least_hall
from mustmay.least import alike, least
from mustmay.pairs import row_apart, within
from mustmay.plans import word_after
from mustmay.texts import plan_text

BETWEEN = "; "


def yes_or_no(truth):
    return "yes" if truth else "no"


def is_within(one, other):
    if one is None or other is None:
        return one is None
    return within(one, other)


def is_alike(one, other):
    if one is None or other is None:
        return one is None and other is None
    return alike(one, other)


def rooms_text(plan):
    if plan is None:
        return "nothing"
    return BETWEEN.join(plan_text(plan).split("\n")[1:])


def within_text(one, other):
    if one is None:
        return "yes"
    if other is None:
        return "no nothing"
    apart = row_apart(one, other)
    if apart is None:
        return "yes"
    actions = one.action_list()
    row = [actions[action] for action in apart[0]]
    return " ".join(["no", apart[2], actions[apart[1]], "behind"] + row)


def hall_text(one, other):
    if one is None:
        return "none"
    if other is None:
        return rooms_text(least(least_hall(one)))
    apart = hall_apart(one, other)
    return "none" if apart is None else rooms_text(apart[0])


def after_text(plan, names):
    if plan is None:
        return "none"
    actions = plan.action_list()
    row = [actions.index(name) for name in names]
    word = word_after(plan, row[:-1], row[-1])
    return "none" if word is None else word
