"""Wishes: demands in words, told as the plan of the halls that grant them all."""

from mustmay.errors import NoWish
from mustmay.meeting import met
from mustmay.plans import Plan, free_plan

MOST_DEMANDS = 3
HEADS = ("never", "always", "next", "at")
COUNTS = ("0", "1", "2", "3", "4", "5", "6")
LINKS = {"never": ("after", "before"), "always": ("until", "after"), "next": ("after",)}
STEADY = {"never": "shut", "always": "must"}
# The word of the first action's door as long as the second one was not done, and behind it.
PARTED = {
    ("never", "after"): ("may", "shut"),
    ("never", "before"): ("shut", "may"),
    ("always", "until"): ("must", "may"),
    ("always", "after"): ("may", "must"),
    ("next", "after"): ("may", "must"),
}


# The end of the text is a place too, at which no word can be taken.
class Reader:
    def __init__(self, text):
        self.words = text.split(" ")
        self.at = 0

    def is_ended(self):
        return self.at == len(self.words)

    def is_ahead(self, allowed):
        return not self.is_ended() and self.words[self.at] in allowed

    def take(self, allowed):
        if not self.is_ahead(allowed):
            raise NoWish(self.at)
        self.at += 1
        return self.words[self.at - 1]


def demand_door(word, to):
    return ("shut", None) if word == "shut" else (word, to)


# All doors but the action's own are may doors, and all lead to the room where
# one stays, but for those that are told to lead elsewhere.
def demand_room(actions, action, word, stay, elsewhere):
    words = [word if name == action else "may" for name in actions]
    tos = [elsewhere.get(name, stay) for name in actions]
    return [demand_door(its, to) for its, to in zip(words, tos)]


def steady_rows(actions, action, word):
    return [demand_room(actions, action, word, 0, {})]


def parted_rows(actions, action, words, other, stay):
    first = demand_room(actions, action, words[0], 0, {other: 1})
    return [first, demand_room(actions, action, words[1], stay, {other: 1})]


def counted_rows(actions, action, most):
    rows = [demand_room(actions, action, "may", done, {action: done + 1}) for done in range(most)]
    rows.append(demand_room(actions, action, "shut", most, {}))
    return rows


def read_counted(reader, actions):
    reader.take(("most",))
    most = int(reader.take(COUNTS))
    return counted_rows(actions, reader.take(actions), most)


def read_demand(reader, actions):
    head = reader.take(HEADS)
    if head == "at":
        return read_counted(reader, actions)
    action = reader.take(actions)
    if head in STEADY and not reader.is_ahead(LINKS[head]):
        return steady_rows(actions, action, STEADY[head])
    link = reader.take(LINKS[head])
    other = reader.take([name for name in actions if name != action])
    stay = 0 if head == "next" else 1
    return parted_rows(actions, action, PARTED[(head, link)], other, stay)


def read_demands(reader, actions):
    demands = [read_demand(reader, actions)]
    while len(demands) < MOST_DEMANDS and not reader.is_ended():
        reader.take(("and",))
        demands.append(read_demand(reader, actions))
    if not reader.is_ended():
        raise NoWish(reader.at)
    return demands


# A demand has at most seven rooms: so their meetings are never too large.
def wish(actions, text):
    plan = free_plan(actions)
    for rows in read_demands(Reader(text), actions):
        if plan is not None:
            plan = met(plan, Plan(actions, rows))
    return plan
