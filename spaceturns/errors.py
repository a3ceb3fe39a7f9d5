"""The refusals: each stands straight under SpaceError, so that each can be taken by itself or all at once."""


class SpaceError(ValueError):
    pass


class NoSide(SpaceError):
    pass


class Nought(SpaceError):
    pass


class TooGreat(SpaceError):
    pass


class NoPrime(SpaceError):
    pass


class NoLine(SpaceError):
    pass


class NoText(SpaceError):
    def __init__(self, at):
        SpaceError.__init__(self, f"the text is not right at word {at}")
        self.at = at


class NoOrder(SpaceError):
    def __init__(self, at):
        SpaceError.__init__(self, f"the order is not right at place {at}")
        self.at = at


class Divided(SpaceError):
    def __init__(self, by):
        SpaceError.__init__(self, f"the four is a multiple of the whole number {by}")
        self.by = by


class NoTurn(SpaceError):
    def __init__(self, why):
        SpaceError.__init__(self, f"the table is no turn's, its fault is {why!r}")
        self.why = why


class NoName(SpaceError):
    def __init__(self, name):
        SpaceError.__init__(self, f"nothing is kept by the name {name!r}")
        self.name = name
