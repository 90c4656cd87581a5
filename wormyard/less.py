"""Tables less some lanes: the ways that still lead all the way to their goals."""

from wormyard.bits import has, members, set_of
from wormyard.met import starts
from wormyard.tables import Table, onward


def lanes_alive(table, out, goal):
    """Tell, as a dict of True, the lanes that lead to a goal by ways of the table, none of them taken out."""
    land = table.land
    left = [lane for lane in range(len(land.lanes)) if not has(out, lane)]
    after = {}
    for lane in left:
        after[lane] = onward(table, lane, goal)
    line = [lane for lane in left if land.end_of(lane) == goal]
    alive = {}
    for lane in line:
        alive[lane] = True
    looked_at = 0
    while looked_at < len(line):
        found = [lane for lane in left if lane not in alive and line[looked_at] in after[lane]]
        looked_at += 1
        for lane in found:
            alive[lane] = True
        line.extend(found)
    return alive


class Less(Table):
    """What is left of a table where a set of lanes is taken out."""

    def __init__(self, table, out):
        Table.__init__(self, table.land)
        # The ways are kept, not the table, so that lanes can be taken out again and again, ever so often.
        self.entries = {}
        for goal in range(table.land.places):
            alive = lanes_alive(table, out, goal)
            for place in range(table.land.places):
                for came in [None] + table.land.into(place):
                    ways = table.ways(place, goal, came)
                    self.entries[(place, goal, came)] = set_of([way for way in ways if way in alive])
        self.cut = tuple([pair for pair in starts(table) if not self.ways(pair[0], pair[1], None)])

    def ways(self, place, goal, came):
        """Tell the ways of the first table that are alive for the goal."""
        return members(self.entries.get((place, goal, came), 0))

    def cut_off(self):
        """Tell the starts of the first table that are none here, as a list of pairs (place, goal), rising."""
        return list(self.cut)
