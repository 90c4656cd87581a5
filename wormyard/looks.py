"""A look at a table: what is lost, or a ring of lanes, or a paper without fault."""

from wormyard.bits import members
from wormyard.met import lost, met
from wormyard.tables import onward


def leads_of(table, sets):
    """Tell, for each lane, the lanes from which a move leads to it, as a dict with the least goal of each."""
    leads = [{} for goals in sets]
    for lane, goals in enumerate(sets):
        for goal in members(goals):
            for way in onward(table, lane, goal):
                leads[way].setdefault(lane, goal)
    return leads


def lanes_next(leads, numbers):
    """Tell the lanes without a number to which only lanes with a number lead."""
    free = []
    for lane, before in enumerate(leads):
        if lane not in numbers and all([other in numbers for other in before]):
            free.append(lane)
    return free


def number_lanes(leads):
    """Tell, as a dict, the greatest number of moves that lead to a lane; a lane in or behind a ring has none."""
    numbers = {}
    moves = 0
    free = lanes_next(leads, numbers)
    while free:
        for lane in free:
            numbers[lane] = moves
        moves += 1
        free = lanes_next(leads, numbers)
    return numbers


def walk_back(leads, numbers):
    """Tell lanes of a ring, each one behind the one that leads on from it."""
    left = [lane for lane in range(len(leads)) if lane not in numbers]
    walked = []
    lane = left[0]
    # Each lane without a number has another such one that leads to it, so the walk comes round.
    while lane not in walked:
        walked.append(lane)
        lane = min([other for other in leads[lane] if other not in numbers])
    return walked[walked.index(lane):]


def find_ring(leads, numbers):
    """Tell a ring as a tuple of pairs (lane, goal), where some lanes have no number."""
    lanes = list(reversed(walk_back(leads, numbers)))
    following = lanes[1:] + lanes[:1]
    return tuple([(lane, leads[after][lane]) for lane, after in zip(lanes, following)])


def look(table):
    """Tell the first lost pair, else a ring, else a paper: each behind the word for it."""
    pair = lost(table)
    if pair is not None:
        return ("lost", pair)
    sets = met(table)
    leads = leads_of(table, sets)
    numbers = number_lanes(leads)
    if len(numbers) < len(sets):
        return ("ring", find_ring(leads, numbers))
    return ("paper", (tuple([numbers[lane] for lane in range(len(sets))]), sets))
