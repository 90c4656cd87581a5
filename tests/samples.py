"""Tables for the tests, and what is told of them, reckoned anew and in another way than the program does."""

import random

from wormyard.lands import Land
from wormyard.makers import Loop, Nearer, RowFirst, Tree
from wormyard.tables import Table, Told
from wormyard.yards import Yard

SIZES = [(wide, high) for wide in range(1, 13) for high in range(1, 13) if wide * high <= 12]
TREES = [[], [0], [0, 0], [0, 1], [0, 1, 2, 3, 4, 5, 6, 7, 8, 9, 10], [0] * 11, [0, 0, 1, 1, 2, 2, 3, 3, 4, 4, 5],
         [0, 1, 0, 3, 3, 2, 6, 0, 8, 1, 9]]
# Three places in a circle, lanes 0, 1, 2; lane 3 goes from place 2 to place 3, lane 4 back to place 0.
CIRCLE = [(0, 1), (1, 2), (2, 0), (2, 3), (3, 0)]


class Keeper(Table):
    """A table that hands out the very lists it keeps, so that whoever changes them is seen."""

    def __init__(self, table):
        Table.__init__(self, table.land)
        self.kept = all_ways(table)

    def ways(self, place, goal, came):
        return self.kept[(place, goal, came)]


def all_ways(table):
    """The ways of each place, goal and came."""
    land = table.land
    return {(place, goal, came): table.ways(place, goal, came) for place in range(land.places)
            for goal in range(land.places) for came in [None] + land.into(place)}


def retold(table):
    """A told table that tells as another one does, its rows in another order."""
    rows = [(place, goal, came, lanes) for (place, goal, came), lanes in all_ways(table).items() if lanes]
    return Told(Land(table.land.places, list(table.land.lanes)), rows[::-1])


def circle_table():
    """Letters for place 3 that begin at place 0 may go round and round, or off by lane 3."""
    rows = [(0, 3, None, [0]), (1, 3, 0, [1]), (2, 3, 1, [2, 3]), (0, 3, 2, [0])]
    return Told(Land(4, CIRCLE), rows)


def endless_table():
    """Letters for place 3 that begin at place 1 go round and never come to it."""
    rows = [(1, 3, None, [1]), (2, 3, 1, [2]), (0, 3, 2, [0]), (1, 3, 0, [1])]
    return Told(Land(4, CIRCLE), rows)


def ring_table():
    """Three letters, each for the place behind the next one: none goes round, their lanes do."""
    rows = []
    for place in range(3):
        rows.append((place, (place + 2) % 3, None, [place]))
        rows.append(((place + 1) % 3, (place + 2) % 3, place, [(place + 1) % 3]))
    return Told(Land(3, CIRCLE[:3]), rows)


def lost_table():
    """Lost are lane 0 for goal 3, lane 2 for goals 1 and 3."""
    rows = [(0, 3, None, [0]), (2, 1, None, [2]), (2, 3, None, [2, 3])]
    return Told(Land(4, CIRCLE), rows)


def some_land(chance, most_places, most_lanes):
    places = chance.randrange(2, most_places + 1)
    pairs = [(start, end) for start in range(places) for end in range(places) if start != end]
    return Land(places, [chance.choice(pairs) for lane in range(chance.randrange(most_lanes + 1))])


def some_told(chance, most_places, most_lanes, odds):
    """A told table with any ways: odds of 10 that a place, goal and came have a row."""
    land = some_land(chance, most_places, most_lanes)
    rows = []
    for place in range(land.places):
        for goal in range(land.places):
            for came in [None] + land.into(place):
                if place != goal and chance.randrange(10) < odds:
                    rows.append((place, goal, came, [lane for lane in land.out_of(place) if chance.randrange(2)]))
    return Told(land, rows)


def some_full(chance, most_places, more_lanes):
    """A told table of places in a circle and some lanes more, that has ways for whoever came anywhere: none is lost."""
    places = chance.randrange(3, most_places + 1)
    pairs = [(place, (place + 1) % places) for place in range(places)]
    for lane in range(chance.randrange(more_lanes + 1)):
        start, end = chance.sample(range(places), 2)
        pairs.append((start, end))
    chance.shuffle(pairs)
    land = Land(places, pairs)
    rows = []
    for place in range(places):
        for goal in range(places):
            for came in [None] + land.into(place):
                out = land.out_of(place)
                if place != goal and (came is not None or chance.randrange(4) == 0):
                    near = [lane for lane in out if land.end_of(lane) == goal]
                    rows.append((place, goal, came, near or chance.sample(out, chance.randrange(1, len(out) + 1))))
    return Told(land, rows)


def told_tables():
    """Told tables, the same ones each time: some by hand, many by a row of numbers that is always the same."""
    chance = random.Random(7)
    tables = [circle_table(), endless_table(), ring_table(), lost_table(), Told(Land(1, []), [])]
    for number in range(150):
        tables.append(some_told(chance, 5, 9, 1 + number % 10))
    for number in range(60):
        tables.append(some_full(chance, 6, 8))
    for number in range(6):
        tables.append(some_told(chance, 12, 40, 4 + number))
        tables.append(some_full(chance, 12, 28))
    return tables


def nearer_tables():
    chance = random.Random(11)
    tables = [Nearer(Land(1, [])), Nearer(Land(3, [])), Nearer(Land(2, [(0, 1)] * 40)), Nearer(Land(4, CIRCLE)),
              Nearer(Land(4, [(0, 1), (0, 1), (1, 2), (0, 2), (2, 0)]))]
    return tables + [Nearer(some_land(chance, 4 + number % 9, 40)) for number in range(40)]


def ruled_tables():
    """Tables of the three kinds that have a paper."""
    tables = [RowFirst(wide, high) for wide, high in SIZES]
    return tables + [Loop(many) for many in range(2, 13)] + [Tree(parents) for parents in TREES]


def all_tables():
    return told_tables() + nearer_tables() + ruled_tables() + [Table(Land(4, CIRCLE)), Table(Land(12, []))]


def met_pairs(table):
    """All that is met, as a set of pairs (lane, goal): grown until nothing comes to it any more."""
    ways = all_ways(table)
    pairs = {(lane, goal) for (place, goal, came), lanes in ways.items() if came is None for lane in lanes}
    before = set()
    while before != pairs:
        before = set(pairs)
        for lane, goal in before:
            end = table.land.lanes[lane][1]
            if end != goal:
                pairs |= {(way, goal) for way in ways[(end, goal, lane)]}
    return pairs


def as_sets(table, pairs):
    """Pairs (lane, goal) as a tuple with, for each lane, the set of its goals."""
    return tuple(sum(1 << goal for goal in range(table.land.places) if (lane, goal) in pairs)
                 for lane in range(len(table.land.lanes)))


def moves_of(table):
    """The moves of a table, as triples (lane, goal, other)."""
    moves = set()
    for lane, goal in met_pairs(table):
        end = table.land.lanes[lane][1]
        if end != goal:
            moves |= {(lane, goal, way) for way in table.ways(end, goal, lane)}
    return moves


def some_yard(chance, table, letters, length, room):
    """A yard with rooms of at most room and at most so many letters of at most so long a length, none moved yet."""
    yard = Yard(table, [chance.randint(1, room) for lane in table.land.lanes])
    pairs = [(place, goal) for (place, goal, came), lanes in all_ways(table).items() if came is None and lanes]
    for number in range(letters if pairs else 0):
        start, goal = chance.choice(pairs)
        yard.post(start, goal, chance.randint(1, length), chance.randint(-9, 9))
    return yard


def stood(yard):
    """All that is told of a yard but its history."""
    land = yard.table.land
    return ([yard.lane_told(lane) for lane in range(len(land.lanes))],
            [yard.letter_told(number) for number in range(yard.posted())],
            [yard.way_told(number) for number in range(yard.posted())],
            [yard.lying(place) for place in range(land.places)], yard.posted(), yard.ended())


def all_told(yard):
    return stood(yard), yard.history(), yard.moves()


def wanted_by_told(yard, lane):
    """What the front of a lane wants, by what the yard tells of lanes, letters and ways; None where it would lie."""
    end = yard.table.land.lanes[lane][1]
    number, count = yard.lane_told(lane)[3][0]
    goal, way = yard.letter_told(number)[1], yard.way_told(number)
    if goal == end:
        return None
    if count == 0:
        return sorted(set(yard.table.ways(end, goal, lane)) - set(way))
    return [way[way.index(lane) + 1]]


def is_open_by_told(yard, lane, number, count):
    rights, back, holder, pieces = yard.lane_told(lane)
    return rights > 0 and holder == (None if count == 0 else number)


def moves_by_told(yard):
    """The moves that may be made, by what the yard tells of lanes, letters, ways and places, put in order by words."""
    lanes = range(len(yard.table.land.lanes))
    away = [piece for lane in lanes for piece in yard.lane_told(lane)[3]]
    away += [piece for place in range(yard.table.land.places) for piece in yard.lying(place)]
    found = [("back", lane) for lane in lanes if yard.lane_told(lane)[1] > 0]
    for number in range(yard.posted()):
        start, goal, length, word = yard.letter_told(number)
        counts = [count for count in range(length) if (number, count) not in away]
        if counts:
            first = yard.table.ways(start, goal, None) if counts[0] == 0 else yard.way_told(number)[:1]
            found += [("in", number, lane) for lane in first if is_open_by_told(yard, lane, number, counts[0])]
    for lane in lanes:
        if yard.lane_told(lane)[3]:
            number, count = yard.lane_told(lane)[3][0]
            wanted = wanted_by_told(yard, lane)
            if wanted is None:
                found.append(("lie", lane))
            else:
                found += [("on", lane, other) for other in wanted if is_open_by_told(yard, other, number, count)]
    return sorted(found, key=lambda move: (["in", "on", "lie", "back"].index(move[0]),) + move[1:])


def do_some(chance, yard, most):
    """Make moves by chance, and tell the yard behind each of them."""
    for number in range(most):
        moves = yard.moves()
        if not moves:
            return
        yard.do(chance.choice(moves))
        yield yard


def some_yards(seed, letters=4, length=4, room=3):
    """Yards of many tables: told ones, Nearer and those made by rules."""
    chance = random.Random(seed)
    return [some_yard(chance, table, letters, length, room) for table in all_tables()]
