"""The errors of the package."""


class HallError(ValueError):
    """The base of most errors."""


class InvalidHall(HallError):
    """A value is not a hall."""

    def __init__(self, reason, index):
        self.reason = reason
        self.index = index


class InvalidState(HallError):
    """A value is not a state of the hall."""

    def __init__(self, reason, index):
        self.reason = reason
        self.index = index


class InvalidText(HallError):
    """A line of a text is not allowed."""

    def __init__(self, line):
        self.line = line


class Blocked(HallError):
    """A deed cannot be done."""

    def __init__(self, index):
        self.index = index


class NotRing(HallError):
    """The doors are not a ring."""


class Mismatch(HallError):
    """Two states differ in this walker, or the state already has it."""

    def __init__(self, name):
        self.name = name


class TooMany(HallError):
    """There are more states than were allowed."""

    def __init__(self, count):
        self.count = count


class Full(HallError):
    """The state has as many walkers as a state may have."""

    def __init__(self, most):
        self.most = most


class Unbalanced(HallError):
    """The needs of all rooms do not add up to 0."""

    def __init__(self, difference):
        self.difference = difference


class Rejected(HallError):
    """A change cannot be made."""

    def __init__(self, index):
        self.index = index


class InvalidCommand(HallError):
    """A command has none of the known forms."""


class UnknownRoom(KeyError):
    """The hall has no such room."""

    def __init__(self, name):
        self.name = name


class UnknownDoor(KeyError):
    """The hall has no such door."""

    def __init__(self, name):
        self.name = name


class UnknownWalker(KeyError):
    """The state has no such walker."""

    def __init__(self, name):
        self.name = name
