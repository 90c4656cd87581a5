"""Tables made by rules."""

from wormyard.bits import members, set_of
from wormyard.errors import NoPlaces
from wormyard.lands import MOST_PLACES, Land
from wormyard.tables import Table
from wormyard.whole import is_whole, is_within


def is_size(wide, high):
    """Tell whether so many columns and rows make a land."""
    # Both are looked at, as two below 1 may have a product that a land could have.
    return is_whole(wide) and is_whole(high) and wide >= 1 and high >= 1 and wide * high <= MOST_PLACES


def places_beside(wide, high, place):
    """Tell the places next to one: to the right, to the left, below and above it, as far as there are such."""
    column = place % wide
    row = place // wide
    beside = []
    if column + 1 < wide:
        beside.append(place + 1)
    if column > 0:
        beside.append(place - 1)
    if row + 1 < high:
        beside.append(place + wide)
    if row > 0:
        beside.append(place - wide)
    return beside


def row_lanes(wide, high):
    """Tell the lanes of places in rows and columns, by the places they start from."""
    lanes = []
    for place in range(wide * high):
        lanes.extend([(place, end) for end in places_beside(wide, high, place)])
    return lanes


class RowFirst(Table):
    """A table of places in rows and columns: along the row first, then along the column."""

    def __init__(self, wide, high):
        if not is_size(wide, high):
            raise NoPlaces("rows and columns make one to twelve places")
        Table.__init__(self, Land(wide * high, row_lanes(wide, high)))
        self.wide = wide

    def ways(self, place, goal, came):
        """Tell the one lane that comes nearer to the goal's column or, in that column, to the goal."""
        if place == goal:
            return []
        return [self.land.lanes.index((place, self.next_place(place, goal)))]

    def next_place(self, place, goal):
        """Tell the place that comes behind a place on the way to a goal elsewhere."""
        column = place % self.wide
        column_there = goal % self.wide
        if column != column_there:
            return place + 1 if column < column_there else place - 1
        return place + self.wide if place < goal else place - self.wide


class Loop(Table):
    """A table of places in a circle with two lanes each: the second one for those who came past the last place."""

    def __init__(self, many):
        if not is_within(many, 2, MOST_PLACES):
            raise NoPlaces("a loop has two to twelve places")
        once = [(place, (place + 1) % many) for place in range(many)]
        Table.__init__(self, Land(many, once + once))
        self.many = many

    def ways(self, place, goal, came):
        """Tell the one lane onward, by whether a letter came past the last place."""
        if place == goal:
            return []
        if came is not None and came >= self.many - 1:
            return [self.many + place]
        return [place]


def are_parents(parents):
    """Tell whether each number is that of a place ahead of the one it stands for, and there are not too many."""
    if len(parents) >= MOST_PLACES:
        return False
    return all([is_within(above, 0, number) for number, above in enumerate(parents)])


def tree_lanes(parents):
    """Tell the lanes of a tree: for each place but the top the one up from it, then the one down to it."""
    lanes = []
    for number, above in enumerate(parents):
        lanes.append((number + 1, above))
        lanes.append((above, number + 1))
    return lanes


class Tree(Table):
    """A table of places beneath one another: down where the goal is beneath, else up."""

    def __init__(self, parents):
        if not are_parents(parents):
            raise NoPlaces("each place of a tree stands beneath one ahead of it")
        Table.__init__(self, Land(len(parents) + 1, tree_lanes(parents)))
        # A copy, as the list that was handed in may be changed behind.
        self.parents = tuple(parents)

    def ways(self, place, goal, came):
        """Tell the one lane down to the next place on the way to the goal, or the one up."""
        if place == goal:
            return []
        child = self.child_towards(place, goal)
        if child is None:
            return [2 * (place - 1)]
        return [2 * (child - 1) + 1]

    def child_towards(self, place, goal):
        """Tell the place right beneath a place that is met as one goes up from the goal, or None."""
        child = goal
        while child != 0:
            above = self.parents[child - 1]
            if above == place:
                return child
            child = above
        return None


def how_far(land, goal):
    """Tell, for each place from which lanes lead to the goal, the least number of them, as a dict."""
    far = {goal: 0}
    line = [goal]
    looked_at = 0
    while looked_at < len(line):
        place = line[looked_at]
        looked_at += 1
        for lane in land.into(place):
            start = land.start_of(lane)
            if start not in far:
                far[start] = far[place] + 1
                line.append(start)
    return far


def nearer_lanes(land, far, place):
    """Tell the lanes out of a place, rising, whose ends are nearer by one."""
    return [lane for lane in land.out_of(place) if far.get(land.end_of(lane)) == far[place] - 1]


class Nearer(Table):
    """A table of any land: all lanes that come nearer to the goal."""

    def __init__(self, land):
        Table.__init__(self, land)
        # Reckoned once, as ways are asked for much oftener than tables are made.
        self.entries = {}
        for goal in range(land.places):
            far = how_far(land, goal)
            for place in far:
                self.entries[(place, goal)] = set_of(nearer_lanes(land, far, place))

    def ways(self, place, goal, came):
        """Tell the lanes out of a place whose ends are nearer to the goal by one."""
        return members(self.entries.get((place, goal), 0))
