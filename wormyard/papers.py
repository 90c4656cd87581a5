"""Papers: a number and a set of goals for each lane, and what is at fault with them by a table."""

from wormyard.bits import has, members
from wormyard.met import starts
from wormyard.tables import onward
from wormyard.whole import is_within


def has_size(land, numbers, sets):
    """Tell whether there is a number for each lane of the land, and a set of its places."""
    lanes = len(land.lanes)
    if len(numbers) != lanes or len(sets) != lanes:
        return False
    return all([is_within(goals, 0, (1 << land.places) - 1) for goals in sets])


def start_fault(table, sets):
    """Tell the first lane of a start whose set lacks the goal, as a fault, or None."""
    for place, goal in starts(table):
        for lane in table.ways(place, goal, None):
            if not has(sets[lane], goal):
                return ("start", place, goal, lane)
    return None


def way_fault(numbers, sets, lane, goal, way):
    """Tell what is at fault with going from a lane to a way for a goal, or None."""
    if not has(sets[way], goal):
        return ("open", lane, goal, way)
    if numbers[way] <= numbers[lane]:
        return ("number", lane, goal, way)
    return None


def pair_fault(table, numbers, sets, lane, goal):
    """Tell what is at fault with a lane and a goal of its set that is not its end, or None."""
    ways = onward(table, lane, goal)
    if not ways:
        return ("lost", lane, goal)
    for way in ways:
        found = way_fault(numbers, sets, lane, goal, way)
        if found is not None:
            return found
    return None


def lane_fault(table, numbers, sets, lane):
    """Tell what is at fault with a lane, by the goals of its set, or None."""
    end = table.land.end_of(lane)
    for goal in members(sets[lane]):
        if goal != end:
            found = pair_fault(table, numbers, sets, lane, goal)
            if found is not None:
                return found
    return None


def fault(table, paper):
    """Tell the first fault of a paper (numbers, met) by a table, or None where there is none."""
    numbers = paper[0]
    sets = paper[1]
    if not has_size(table.land, numbers, sets):
        return ("size",)
    found = start_fault(table, sets)
    lane = 0
    while found is None and lane < len(sets):
        found = lane_fault(table, numbers, sets, lane)
        lane += 1
    return found
