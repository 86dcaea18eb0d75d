"""Doors: what a room says of one action."""


# Not made by itself: word, needs, allows and led are with the four classes below.
class Door:
    def __init__(self, to):
        self.to = to

    def told(self):
        return (self.word(), self.to)


class Must(Door):
    def word(self):
        return "must"

    def needs(self):
        return True

    def allows(self):
        return True

    def led(self, to):
        return Must(to)


class May(Door):
    def word(self):
        return "may"

    def needs(self):
        return False

    def allows(self):
        return True

    def led(self, to):
        return May(to)


class Shut(Door):
    def __init__(self):
        Door.__init__(self, None)

    def word(self):
        return "shut"

    def needs(self):
        return False

    def allows(self):
        return False

    def led(self, to):
        return Shut()


class Torn(Door):
    def __init__(self):
        Door.__init__(self, None)

    def word(self):
        return "torn"

    def needs(self):
        return True

    def allows(self):
        return False

    def led(self, to):
        return Torn()


def door_of(needs, allows, to):
    if needs and allows:
        return Must(to)
    if allows:
        return May(to)
    if needs:
        return Torn()
    return Shut()
