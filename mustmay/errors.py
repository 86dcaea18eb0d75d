"""The refusals. An asker that takes HallError takes every one of them."""


class HallError(ValueError):
    pass


class BadPlan(HallError):
    def __init__(self, room, action):
        HallError.__init__(self, f"no draft or plan: room {room}, action {action}")
        self.room = room
        self.action = action


class NoText(HallError):
    def __init__(self, line):
        HallError.__init__(self, f"no text of a plan: line {line}")
        self.line = line


class NoWay(HallError):
    def __init__(self, at):
        HallError.__init__(self, f"no way along the row: place {at}")
        self.at = at


class NoWish(HallError):
    def __init__(self, place):
        HallError.__init__(self, f"no wish: word {place}")
        self.place = place


class NoName(HallError):
    def __init__(self, name):
        HallError.__init__(self, f"not there: {name}")
        self.name = name


class NameThere(HallError):
    def __init__(self, name):
        HallError.__init__(self, f"there already: {name}")
        self.name = name


class InUse(HallError):
    def __init__(self, name):
        HallError.__init__(self, f"in use: {name}")
        self.name = name


class Unlike(HallError):
    pass


class TooMany(HallError):
    pass


class NoLine(HallError):
    pass
