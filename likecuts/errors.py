"""The errors of the package."""


class NoPlace(LookupError):
    """There is no THING, no RULE, no place of this name."""

    def __init__(self, place):
        self.place = place


class BadLine(ValueError):
    """This line, counted from 1, can not stand where it stands."""

    def __init__(self, line):
        self.line = line


class CanNot(ValueError):
    """There is nothing of the kind that is asked for."""

    def __init__(self):
        ValueError.__init__(self)


class TooMuch(ValueError):
    """There is more of it than is told."""

    def __init__(self):
        ValueError.__init__(self)


class Unfit(ValueError):
    """What is passed does not fit what is asked for."""

    def __init__(self):
        ValueError.__init__(self)


class NoRoom(ValueError):
    """This RING of hard RULES has no room."""

    def __init__(self, ring):
        self.ring = ring


class Loose(ValueError):
    """Some counted RULE enters this CUT and no RULE leaves it."""

    def __init__(self, lot):
        self.lot = lot


class Afloat(ValueError):
    """These THINGS do not hang together with THING 0."""

    def __init__(self, lot):
        self.lot = lot
