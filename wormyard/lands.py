"""Lands: places, and lanes from one place to another one."""

from wormyard.errors import NoPlaces, NoRoad, TooMany
from wormyard.whole import is_within

MOST_PLACES = 12
MOST_LANES = 40


def are_two_places(places, one, other):
    """Tell whether one and other are two unlike places of a land with so many."""
    last = places - 1
    return is_within(one, 0, last) and is_within(other, 0, last) and one != other


class Land:
    """A land: the number of its places, and its lanes as a tuple of pairs (start, end)."""

    def __init__(self, places, lanes):
        if not is_within(places, 1, MOST_PLACES):
            raise NoPlaces("a land has one to twelve places")
        if len(lanes) > MOST_LANES:
            raise TooMany(len(lanes))
        for lane, pair in enumerate(lanes):
            if not are_two_places(places, pair[0], pair[1]):
                raise NoRoad(lane)
        self.places = places
        self.lanes = tuple([(pair[0], pair[1]) for pair in lanes])

    def start_of(self, lane):
        """Tell the place that a lane leads from."""
        return self.lanes[lane][0]

    def end_of(self, lane):
        """Tell the place that a lane leads to."""
        return self.lanes[lane][1]

    def out_of(self, place):
        """Tell the lanes that begin at a place as a list, rising."""
        return [lane for lane, pair in enumerate(self.lanes) if pair[0] == place]

    def into(self, place):
        """Tell the lanes that end at a place as a list, rising."""
        return [lane for lane, pair in enumerate(self.lanes) if pair[1] == place]
