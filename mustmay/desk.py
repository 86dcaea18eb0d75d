"""A desk, which keeps plans by names, and what was claimed of them, and is spoken to in lines."""

from mustmay.answers import BETWEEN, after_text, hall_text, is_alike, is_within, rooms_text, within_text, yes_or_no
from mustmay.errors import BadPlan, InUse, NameThere, NoName, TooMany
from mustmay.kept import TOO_MANY, Kept, Made, Told, Wished
from mustmay.lines import read_line
from mustmay.plans import Plan, need_actions
from mustmay.texts import read_plan
from mustmay.wishes import wish

NONE_THERE = "-"
DONE = "ok"


def need_kind(kept, kind, word):
    if kind == "NEW" and kept.has_name(word):
        raise NameThere(word)
    if kind == "NAME" and not kept.has_name(word):
        raise NoName(word)
    if kind == "TOLD" and not kept.is_told(word):
        raise NoName(word)
    if kind == "NUMBER" and int(word) not in kept.claims:
        raise NoName(word)


def read_rooms(kept, text):
    lines = [" ".join(["actions"] + kept.actions)] + text.split(BETWEEN)
    return read_plan("\n".join(lines))


def keep_told(kept, words):
    kept.keep(words[1], Told(read_rooms(kept, words[2])))
    return DONE


def keep_wish(kept, words):
    kept.keep(words[1], Wished(wish(kept.actions, words[2])))
    return DONE


def keep_made(kept, words):
    kept.keep(words[1], Made(words[0], words[2], words[3]))
    return DONE


def room_number(word):
    return int(word[1:])


def change_door(kept, words):
    rows = kept.plan_by(words[1]).told()
    room = room_number(words[2])
    if room >= len(rows):
        raise BadPlan(room, -1)
    to = None if words[4] == "shut" else room_number(words[5])
    rows[room][kept.actions.index(words[3])] = (words[4], to)
    # Should the door lead to a room that is not there, the plan refuses it in just this place.
    kept.keep(words[1], Told(Plan(kept.actions, rows)))
    return DONE


def drop_name(kept, words):
    if kept.in_use(words[1]):
        raise InUse(words[1])
    kept.drop(words[1])
    return DONE


def tell_names(kept, words):
    names = sorted(kept.things)
    return NONE_THERE if names == [] else " ".join(names)


def tell_rooms(kept, words):
    return rooms_text(kept.plan_by(words[1]))


def tell_within(kept, words):
    return within_text(kept.plan_by(words[1]), kept.plan_by(words[2]))


def tell_alike(kept, words):
    return yes_or_no(is_alike(kept.plan_by(words[1]), kept.plan_by(words[2])))


def tell_hall(kept, words):
    return hall_text(kept.plan_by(words[1]), kept.plan_by(words[2]))


def tell_after(kept, words):
    return after_text(kept.plan_by(words[1]), words[2:])


def keep_claim(kept, words):
    return str(kept.claim(words[1], words[2:]))


def drop_claim(kept, words):
    kept.unclaim(int(words[1]))
    return DONE


def is_claim_right(word, plans):
    if word == "some":
        return plans[0] is not None
    if word == "alike":
        return is_alike(plans[0], plans[1])
    return is_within(plans[0], plans[1])


def claim_text(kept, number):
    claim = kept.claims[number]
    try:
        plans = [kept.plan_by(name) for name in claim[1]]
    except TooMany:
        return f"{number} {TOO_MANY}"
    answer = yes_or_no(is_claim_right(claim[0], plans))
    return f"{number} {answer}"


def tell_claims(kept, words):
    texts = [claim_text(kept, number) for number in kept.claims]
    return NONE_THERE if texts == [] else BETWEEN.join(texts)


# What is done for a line, by its first word, when its form and its names are right.
WORK = {
    "plan": keep_told,
    "change": keep_told,
    "wish": keep_wish,
    "door": change_door,
    "meet": keep_made,
    "beside": keep_made,
    "over": keep_made,
    "drop": drop_name,
    "names": tell_names,
    "show": tell_rooms,
    "within": tell_within,
    "alike": tell_alike,
    "hall": tell_hall,
    "after": tell_after,
    "claim": keep_claim,
    "claims": tell_claims,
    "unclaim": drop_claim,
}


class Desk:
    def __init__(self, actions):
        need_actions(actions)
        self.kept = Kept(actions)

    def say(self, line):
        found = read_line(line, self.kept.actions)
        words = found[1]
        for kind, word in zip(found[0], words):
            need_kind(self.kept, kind, word)
        return WORK[words[0]](self.kept, words)
