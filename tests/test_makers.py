"""Promises [12] to [17], and [2] as far as they go."""

import itertools
import unittest

from samples import CIRCLE, SIZES, TREES, all_ways, nearer_tables, ruled_tables
from wormyard.errors import NoPlaces
from wormyard.lands import Land
from wormyard.looks import look
from wormyard.makers import Loop, Nearer, RowFirst, Tree
from wormyard.met import lost, starts
from wormyard.papers import fault
from wormyard.tables import Table


def each_asking(land):
    """Each place, each goal, and None and each lane that ends at the place."""
    for place in range(land.places):
        for goal in range(land.places):
            for came in [None] + [lane for lane, pair in enumerate(land.lanes) if pair[1] == place]:
                yield place, goal, came


class TestRowFirst(unittest.TestCase):
    def test_the_lanes_that_the_document_names(self):
        land = RowFirst(3, 2).land
        self.assertEqual(land.lanes[:5], ((0, 1), (0, 3), (1, 2), (1, 0), (1, 4)))
        self.assertEqual(land.lanes[5:], ((2, 1), (2, 5), (3, 4), (3, 0), (4, 5), (4, 3), (4, 1), (5, 4), (5, 2)))

    def test_places_and_lanes_of_each_size(self):
        self.assertEqual(len(SIZES), 35)
        for wide, high in SIZES:
            lanes = []
            for place in range(wide * high):
                column, row = place % wide, place // wide
                for right, down in ((1, 0), (-1, 0), (0, 1), (0, -1)):
                    if 0 <= column + right < wide and 0 <= row + down < high:
                        lanes.append((place, (row + down) * wide + column + right))
            with self.subTest(wide=wide, high=high):
                land = RowFirst(wide, high).land
                self.assertEqual((land.places, land.lanes), (wide * high, tuple(lanes)))

    def test_ways_of_each_size(self):
        for wide, high in SIZES:
            table = RowFirst(wide, high)
            for place, goal, came in each_asking(table.land):
                column, row = place % wide, place // wide
                if column < goal % wide:
                    column += 1
                elif column > goal % wide:
                    column -= 1
                elif row < goal // wide:
                    row += 1
                elif row > goal // wide:
                    row -= 1
                ways = [] if place == goal else [table.land.lanes.index((place, row * wide + column))]
                self.assertEqual(table.ways(place, goal, came), ways, (wide, high, place, goal, came))

    def test_sizes_that_are_none(self):
        for wide, high in ((0, 1), (1, 0), (0, 0), (-1, 1), (1, -1), (-1, -1), (-3, -4), (-2, 3), (0, 20), (13, 1),
                           (1, 13), (4, 4), (7, 2), (2, 7), (3, 5), (12, 2), (10 ** 30, 1), (10 ** 30, -1),
                           (10 ** 30, 0)):
            with self.subTest(wide=wide, high=high):
                with self.assertRaises(NoPlaces):
                    RowFirst(wide, high)

    def test_truths_are_no_sizes(self):
        for wide, high in ((True, 3), (3, True), (False, 3), (True, True)):
            with self.assertRaises(NoPlaces):
                RowFirst(wide, high)

    def test_one_place(self):
        table = RowFirst(1, 1)
        self.assertEqual((table.land.places, table.land.lanes), (1, ()))
        self.assertEqual(table.ways(0, 0, None), [])


class TestLoop(unittest.TestCase):
    def test_places_and_lanes(self):
        self.assertEqual(Loop(2).land.lanes, ((0, 1), (1, 0), (0, 1), (1, 0)))
        self.assertEqual(Loop(3).land.lanes, ((0, 1), (1, 2), (2, 0), (0, 1), (1, 2), (2, 0)))
        for many in range(2, 13):
            land = Loop(many).land
            once = tuple((place, place + 1) for place in range(many - 1)) + ((many - 1, 0),)
            self.assertEqual((land.places, land.lanes), (many, once + once))

    def test_ways_by_hand(self):
        table = Loop(4)
        self.assertEqual(table.ways(0, 2, None), [0])
        self.assertEqual(table.ways(0, 2, 3), [4])
        self.assertEqual(table.ways(0, 2, 7), [4])
        self.assertEqual(table.ways(3, 2, 2), [3])
        self.assertEqual(table.ways(3, 2, 6), [7])
        self.assertEqual(table.ways(3, 2, None), [3])

    def test_ways_by_none_and_by_each_lane(self):
        for many in range(2, 13):
            table = Loop(many)
            for place, goal, came in each_asking(table.land):
                second = came is not None and (came == many - 1 or came >= many)
                ways = [] if place == goal else [many + place if second else place]
                self.assertEqual(table.ways(place, goal, came), ways, (many, place, goal, came))

    def test_numbers_of_places_that_are_none(self):
        for many in (1, 0, -1, -2, -12, 13, 14, 20, 21, 24, 10 ** 30, True, False):
            with self.subTest(many=many):
                with self.assertRaises(NoPlaces):
                    Loop(many)


def trees():
    """Each tree with at most four parents, and some greater ones."""
    found = list(TREES)
    for many in range(5):
        found.extend([list(parents) for parents in itertools.product(*[range(k + 1) for k in range(many)])])
    return found


def line_up(parents, place):
    """A place and all those above it."""
    return [place] if place == 0 else [place] + line_up(parents, parents[place - 1])


class TestTree(unittest.TestCase):
    def test_no_parents(self):
        table = Tree([])
        self.assertEqual((table.land.places, table.land.lanes), (1, ()))
        self.assertEqual(table.ways(0, 0, None), [])

    def test_ways_by_hand(self):
        table = Tree([0, 0, 1, 1])
        self.assertEqual(table.land.lanes, ((1, 0), (0, 1), (2, 0), (0, 2), (3, 1), (1, 3), (4, 1), (1, 4)))
        self.assertEqual(table.ways(3, 4, None), [4])
        self.assertEqual(table.ways(1, 4, 4), [7])
        self.assertEqual(table.ways(3, 2, None), [4])
        self.assertEqual(table.ways(1, 2, 4), [0])
        self.assertEqual(table.ways(0, 2, 0), [3])
        self.assertEqual(table.ways(0, 4, None), [1])
        self.assertEqual(table.ways(4, 0, None), [6])

    def test_places_and_lanes(self):
        for parents in trees():
            lanes = ()
            for number, above in enumerate(parents):
                lanes += ((number + 1, above), (above, number + 1))
            land = Tree(parents).land
            self.assertEqual((land.places, land.lanes), (len(parents) + 1, lanes))

    def test_ways_up_and_down(self):
        for parents in trees():
            table = Tree(parents)
            for place, goal, came in each_asking(table.land):
                above = line_up(parents, goal)
                if place == goal:
                    ways = []
                elif place in above:
                    ways = [table.land.lanes.index((place, above[above.index(place) - 1]))]
                else:
                    ways = [table.land.lanes.index((place, parents[place - 1]))]
                self.assertEqual(table.ways(place, goal, came), ways, (parents, place, goal, came))

    def test_eleven_parents_and_no_more(self):
        self.assertEqual(Tree([0] * 11).land.places, 12)
        self.assertEqual(Tree(list(range(11))).land.places, 12)
        for parents in ([0] * 12, list(range(12)), [0] * 13, [0] * 60):
            with self.assertRaises(NoPlaces):
                Tree(parents)

    def test_parents_that_are_none(self):
        for parents in ([1], [-1], [0, 2], [0, -1], [0, 0, 3], [0, 1, 2, 4], [2, 0], [12], [10 ** 30],
                        [0] * 10 + [11], [0] * 10 + [-1]):
            with self.subTest(parents=parents):
                with self.assertRaises(NoPlaces):
                    Tree(parents)

    def test_truths_are_no_parents(self):
        for parents in ([False], [0, True], [0, False], [0, 0, True]):
            with self.subTest(parents=parents):
                with self.assertRaises(NoPlaces):
                    Tree(parents)

    def test_the_list_handed_in_stays(self):
        parents = [0, 1, 0]
        table = Tree(parents)
        all_ways(table)
        self.assertEqual(parents, [0, 1, 0])
        bad = [0, 1, 7]
        with self.assertRaises(NoPlaces):
            Tree(bad)
        self.assertEqual(bad, [0, 1, 7])

    def test_the_list_handed_in_changed_behind_changes_nothing(self):
        parents = [0, 1, 1, 2]
        table = Tree(parents)
        kept = (all_ways(table), table.land.places, table.land.lanes)
        parents[1] = 0
        parents[3] = 3
        parents.append(0)
        self.assertEqual((all_ways(table), table.land.places, table.land.lanes), kept)
        parents.clear()
        self.assertEqual((all_ways(table), table.land.places, table.land.lanes), kept)


def distances(land):
    """How far each place is from each goal, by ever longer rows of lanes; None where no lanes lead there."""
    far = {(place, goal): 0 if place == goal else None for place in range(land.places) for goal in range(land.places)}
    for many in range(1, land.places):
        for start, end in land.lanes:
            for goal in range(land.places):
                if far[(end, goal)] == many - 1 and far[(start, goal)] is None:
                    far[(start, goal)] = many
    return far


class TestNearer(unittest.TestCase):
    def test_the_land_is_the_one_handed_in(self):
        land = Land(4, CIRCLE)
        self.assertEqual((Nearer(land).land.places, Nearer(land).land.lanes), (4, tuple(CIRCLE)))

    def test_several_lanes_of_one_pair(self):
        table = Nearer(Land(3, [(0, 1), (1, 2), (0, 1), (1, 0), (1, 2), (0, 1)]))
        self.assertEqual(table.ways(0, 1, None), [0, 2, 5])
        self.assertEqual(table.ways(0, 2, None), [0, 2, 5])
        self.assertEqual(table.ways(1, 2, 2), [1, 4])
        self.assertEqual(table.ways(1, 0, None), [3])
        self.assertEqual(Nearer(Land(2, [(0, 1)] * 40)).ways(0, 1, None), list(range(40)))

    def test_goals_that_no_lanes_lead_to(self):
        table = Nearer(Land(4, [(0, 1), (1, 2), (2, 0), (3, 0)]))
        for place in range(3):
            for came in [None] + table.land.into(place):
                self.assertEqual(table.ways(place, 3, came), [])
        self.assertEqual(table.ways(3, 2, None), [3])

    def test_ways_round_about_are_none(self):
        table = Nearer(Land(3, [(0, 1), (1, 2), (0, 2)]))
        self.assertEqual(table.ways(0, 2, None), [2])
        self.assertEqual(table.ways(0, 1, None), [0])
        self.assertEqual(table.ways(1, 2, 0), [1])

    def test_each_way_of_many_lands(self):
        for table in nearer_tables():
            far = distances(table.land)
            for place, goal, came in each_asking(table.land):
                ways = []
                for lane, (start, end) in enumerate(table.land.lanes):
                    if start == place and None not in (far[(start, goal)], far[(end, goal)]):
                        if far[(end, goal)] == far[(start, goal)] - 1:
                            ways.append(lane)
                self.assertEqual(table.ways(place, goal, came), ways)

    def test_a_nearer_has_no_lost_pair(self):
        for table in nearer_tables():
            self.assertIsNone(lost(table))

    def test_starts_are_just_where_lanes_lead_to_the_goal(self):
        for table in nearer_tables():
            own = sorted(pair for pair, many in distances(table.land).items() if many)
            self.assertEqual(starts(table), own)


class TestAllFourKinds(unittest.TestCase):
    def test_they_stand_under_table(self):
        for table in ruled_tables() + nearer_tables():
            self.assertIsInstance(table, Table)
            self.assertIsInstance(table.land, Land)

    def test_no_ways_where_the_place_is_the_goal(self):
        for table in ruled_tables() + nearer_tables():
            for place in range(table.land.places):
                for came in [None] + table.land.into(place):
                    self.assertEqual(table.ways(place, place, came), [])

    def test_came_is_looked_at_by_loop_alone(self):
        for table in ruled_tables() + nearer_tables():
            if not isinstance(table, Loop):
                for place, goal, came in each_asking(table.land):
                    self.assertEqual(table.ways(place, goal, came), table.ways(place, goal, None))

    def test_ways_are_lists_that_begin_at_the_place_rising_none_twice(self):
        for table in ruled_tables() + nearer_tables():
            for (place, goal, came), ways in all_ways(table).items():
                self.assertIs(type(ways), list)
                self.assertEqual(ways, sorted(set(ways)))
                for way in ways:
                    self.assertEqual(table.land.start_of(way), place)

    def test_told_lists_that_are_changed_change_nothing(self):
        for table in ruled_tables() + nearer_tables():
            kept = all_ways(table)
            for place, goal, came in kept:
                table.ways(place, goal, came).append(99)
                table.ways(place, goal, came).clear()
            self.assertEqual(all_ways(table), kept)

    def test_the_first_three_lead_from_each_place_to_each_other_one(self):
        for table in ruled_tables():
            for start in range(table.land.places):
                for goal in range(table.land.places):
                    place, came, steps = start, None, 0
                    while place != goal and steps <= 40:
                        came = table.ways(place, goal, came)[0]
                        place = table.land.end_of(came)
                        steps += 1
                    self.assertEqual(place, goal)

    def test_a_look_at_the_first_three_tells_a_paper(self):
        for table in ruled_tables():
            word, paper = look(table)
            self.assertEqual(word, "paper")
            self.assertIsNone(fault(table, paper))


if __name__ == "__main__":
    unittest.main()
