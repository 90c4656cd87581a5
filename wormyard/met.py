"""What is met: which heads may come by which lanes, from where a table lets letters begin."""

from wormyard.bits import members
from wormyard.errors import NotMet
from wormyard.tables import onward
from wormyard.whole import is_one_of, is_within


def starts(table):
    """Tell the pairs (place, goal) at which a letter can begin as a list, rising."""
    found = []
    for place in range(table.land.places):
        for goal in range(table.land.places):
            if table.ways(place, goal, None):
                found.append((place, goal))
    return found


def first_lanes(table, goal):
    """Tell the first lanes of all starts for a goal as a list."""
    found = []
    for place in range(table.land.places):
        found.extend(table.ways(place, goal, None))
    return found


def lanes_ahead(table, goal):
    """Tell, for each lane that is met for a goal, the lane by which it was first come to, None for a first lane."""
    ahead = {}
    for lane in first_lanes(table, goal):
        ahead[lane] = None
    line = list(ahead)
    looked_at = 0
    while looked_at < len(line):
        lane = line[looked_at]
        looked_at += 1
        for way in onward(table, lane, goal):
            if way not in ahead:
                ahead[way] = lane
                line.append(way)
    return ahead


def met(table):
    """Tell what is met as a tuple with, for each lane, the set of its goals."""
    sets = [0 for lane in table.land.lanes]
    for goal in range(table.land.places):
        for lane in lanes_ahead(table, goal):
            sets[lane] = sets[lane] | (1 << goal)
    return tuple(sets)


def is_lost(table, lane, goal):
    """Tell whether a lane does not end at a goal and has no ways for it there."""
    return table.land.end_of(lane) != goal and not onward(table, lane, goal)


def lost(table):
    """Tell the first met pair (lane, goal) that is lost, by lane and then by goal, or None."""
    for lane, goals in enumerate(met(table)):
        for goal in members(goals):
            if is_lost(table, lane, goal):
                return (lane, goal)
    return None


def way_to(table, lane, goal):
    """Tell a row of lanes, none twice, by which a head for the goal may come to the lane."""
    if not is_within(goal, 0, table.land.places - 1):
        raise NotMet("the goal is no place of the land")
    ahead = lanes_ahead(table, goal)
    if not is_one_of(lane, ahead):
        raise NotMet("no head for this goal comes by this lane")
    back = []
    last = lane
    while last is not None:
        back.append(last)
        last = ahead[last]
    return tuple(reversed(back))
