"""What a desk keeps: things by names, and what was claimed of them."""

from mustmay.division import over
from mustmay.errors import TooMany
from mustmay.meeting import met
from mustmay.plans import free_plan
from mustmay.sides import beside

# Stands in the place of a plan that has more rooms than are reckoned with.
TOO_MANY = "too many"


def divided(one, other, actions):
    if other is None:
        return free_plan(actions)
    return None if one is None else over(one, other)


def worked(work, one, other, actions):
    if work == "over":
        return divided(one, other, actions)
    if one is None or other is None:
        return None
    return met(one, other) if work == "meet" else beside(one, other)


# A plan that was told by plan or change.
class Told:
    def __init__(self, plan):
        self.plan = plan

    def can_change(self):
        return True

    def made_of(self):
        return []

    def reckoned(self, plans, actions):
        return self.plan


class Wished(Told):
    def can_change(self):
        return False


class Made:
    def __init__(self, work, one, other):
        self.work = work
        self.one = one
        self.other = other

    def can_change(self):
        return False

    def made_of(self):
        return [self.one, self.other]

    def reckoned(self, plans, actions):
        one = plans[self.one]
        other = plans[self.other]
        if one == TOO_MANY or other == TOO_MANY:
            return TOO_MANY
        try:
            return worked(self.work, one, other, actions)
        except TooMany:
            return TOO_MANY


class Kept:
    def __init__(self, actions):
        self.actions = list(actions)
        self.things = {}
        self.plans = {}
        self.claims = {}
        self.last = 0

    def has_name(self, name):
        return name in self.things

    def is_told(self, name):
        return name in self.things and self.things[name].can_change()

    # What was reckoned may have been made of what stood by this name.
    def keep(self, name, thing):
        if name in self.things:
            self.plans = {}
        self.things[name] = thing

    def drop(self, name):
        self.things.pop(name)
        self.plans = {}

    def claim(self, word, names):
        self.last += 1
        self.claims[self.last] = (word, tuple(names))
        return self.last

    def unclaim(self, number):
        self.claims.pop(number)

    def in_use(self, name):
        made = [thing.made_of() for thing in self.things.values()]
        claimed = [claim[1] for claim in self.claims.values()]
        return any([name in names for names in made + claimed])

    # Whatever is made was kept behind what it is made of.
    def beneath(self, name):
        needed = {name: True}
        for later in reversed(list(self.things)):
            if later in needed:
                for source in self.things[later].made_of():
                    needed[source] = True
        return [earlier for earlier in self.things if earlier in needed]

    # Name by name, so that nothing is made twice, however often it is leant on.
    def plan_by(self, name):
        for needed in self.beneath(name):
            if needed not in self.plans:
                self.plans[needed] = self.things[needed].reckoned(self.plans, list(self.actions))
        if self.plans[name] == TOO_MANY:
            raise TooMany("more rooms than are reckoned with")
        return self.plans[name]
