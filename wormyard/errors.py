"""The refusals, a class for each, so that every one can be told from every other one."""


class YardError(ValueError):
    """Any refusal."""


class NoPlaces(YardError):
    """Places that no land can have."""


class TooMany(YardError):
    """More lanes than a land can have; many is how many."""

    def __init__(self, many):
        self.many = many


class NoRoad(YardError):
    """A lane that joins no two places; lane is the number of the first such one."""

    def __init__(self, lane):
        self.lane = lane


class NoEntry(YardError):
    """A bad row of a told table; row is the number of the first such one."""

    def __init__(self, row):
        self.row = row


class NotMet(YardError):
    """A lane and a goal that are not met."""


class NoRooms(YardError):
    """Rooms that the lanes of a yard can't have."""


class NoPlace(YardError):
    """A place that is none of the land."""


class NoLength(YardError):
    """A length that no letter can have."""


class NoWord(YardError):
    """A word that no letter can have."""


class NoWay(YardError):
    """A start and a goal that the table has no first lanes for."""

    def __init__(self, start, goal):
        self.start = start
        self.goal = goal


class Full(YardError):
    """A letter for a yard that has as many as it can."""


class NoMove(YardError):
    """A move that may not be made."""


class NoText(YardError):
    """A text that shows nothing of what is read."""


class NoRow(YardError):
    """A row that the desk does not know."""
