"""Tables of ways: which lanes may be taken next at a place, for a goal, by the lane one came by."""

from wormyard.bits import members, set_of
from wormyard.errors import NoEntry
from wormyard.lands import are_two_places
from wormyard.whole import is_one_of


def row_fits(land, row):
    """Tell whether a row, looked at by itself, tells ways of the land."""
    place = row[0]
    came = row[2]
    if not are_two_places(land.places, place, row[1]):
        return False
    if came is not None and not is_one_of(came, land.into(place)):
        return False
    begin_here = land.out_of(place)
    return all([is_one_of(lane, begin_here) for lane in row[3]])


def onward(table, lane, goal):
    """Tell the ways at a lane's end, for a goal, come by this lane; none where the lane ends at the goal."""
    end = table.land.end_of(lane)
    return [] if end == goal else table.ways(end, goal, lane)


class Table:
    """A plain table: it has a land and tells no ways anywhere."""

    def __init__(self, land):
        self.land = land

    def ways(self, place, goal, came):
        """Tell the lanes that may be taken next as a list, rising."""
        return []


class Told(Table):
    """A table whose ways are told by rows (place, goal, came, lanes)."""

    def __init__(self, land, rows):
        Table.__init__(self, land)
        # A set is a whole number, so no list that was handed in is kept.
        self.entries = {}
        for number, row in enumerate(rows):
            key = (row[0], row[1], row[2])
            if not row_fits(land, row) or key in self.entries:
                raise NoEntry(number)
            self.entries[key] = set_of(row[3])

    def ways(self, place, goal, came):
        """Tell the lanes that the row of this place, goal and came names."""
        return members(self.entries.get((place, goal, came), 0))
