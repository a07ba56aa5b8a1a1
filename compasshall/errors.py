"""The refusals: one class for each, all straight under HallError."""


class HallError(ValueError):
    pass


class Below(HallError):
    pass


class NoText(HallError):
    pass


class NoOver(HallError):
    pass


class NoRoom(HallError):
    pass


class NoLine(HallError):
    pass


class NoRing(HallError):
    pass


class NoRow(HallError):
    pass


class TooMany(HallError):
    pass


class TooGreat(HallError):
    pass


class NoClaim(HallError):
    pass


class NoMove(HallError):
    pass


class NoChange(HallError):
    pass


class NoAsk(HallError):
    pass


class NoMeet(HallError):
    def __init__(self, number):
        # The number may have more figures than Python writes, so the words leave it out.
        HallError.__init__(self, "there is no meet")
        self.number = number


class Twice(HallError):
    def __init__(self, name):
        HallError.__init__(self, f"this name is there already: {name}")
        self.name = name


class NoName(HallError):
    def __init__(self, name):
        HallError.__init__(self, f"nothing has this name: {name}")
        self.name = name


class NoKind(HallError):
    def __init__(self, name):
        HallError.__init__(self, f"this name is of another kind than wanted: {name}")
        self.name = name


class NoCarry(HallError):
    def __init__(self, at):
        HallError.__init__(self, f"this root is no number over the new scaffold: {at}")
        self.at = at
