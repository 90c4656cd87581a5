"""Stands: how a yard can come to stand, and whether it can go on from there."""

from wormyard.tables import onward
from wormyard.yards import Yard


def still(yard):
    """Tell whether no move may be made though the yard has not ended."""
    return not yard.moves() and not yard.ended()


def waits(yard):
    """Tell, for each lane with pieces in it, the pair of the lane and the lanes that its front wants."""
    found = []
    for lane in range(len(yard.table.land.lanes)):
        if yard.lane_told(lane)[3]:
            found.append((lane, tuple(yard.wanted(lane))))
    return found


def can_stand(table, ring):
    """Tell whether letters can begin in each lane of a ring that have no other way than the ring's next lane."""
    lanes = [lane for lane, goal in ring]
    following = lanes[1:] + lanes[:1]
    for pair, after in zip(ring, following):
        start = table.land.start_of(pair[0])
        if pair[0] not in table.ways(start, pair[1], None) or onward(table, pair[0], pair[1]) != [after]:
            return False
    return True


def stand_of(table, rooms, ring):
    """Tell the letters and the moves that fill each lane of a ring, so that nothing can go on; None if they can't."""
    if not can_stand(table, ring):
        return None
    by_lane = Yard(table, rooms).rooms
    letters = []
    moves = []
    for number, pair in enumerate(ring):
        lane = pair[0]
        letters.append((table.land.start_of(lane), pair[1], by_lane[lane], 0))
        moves.extend([("in", number, lane) for piece in range(by_lane[lane])])
    return (letters, moves)


def moves_to(steps, number):
    """Tell the moves that lead to a stand, by steps (the stand ahead, the move), None for the first stand."""
    back = []
    step = steps[number]
    while step is not None:
        back.append(step[1])
        step = steps[step[0]]
    return list(reversed(back))


def search(yard, most):
    """Look at the stands that a yard can come to, at most so many, for one that is still."""
    if still(yard):
        return ("still", [])
    line = [yard]
    steps = [None]
    seen = {yard.stand(): True}
    looked_at = 0
    while looked_at < len(line):
        here = line[looked_at]
        for move in here.moves():
            other = here.bare_twin()
            other.do(move)
            stand = other.stand()
            if stand not in seen:
                if len(line) == most:
                    return ("more",)
                seen[stand] = True
                line.append(other)
                steps.append((looked_at, move))
                if still(other):
                    return ("still", moves_to(steps, len(steps) - 1))
        looked_at += 1
    return ("ends",)
