"""Promises [7] and [8], and [2] as far as tables go."""

import copy
import itertools
import unittest

from wormyard.errors import NoEntry
from wormyard.lands import Land
from wormyard.tables import Table, Told

# Lanes 0 and 1 begin at place 0, lanes 2 and 3 at place 1, lane 4 at place 2; place 3 is off.
PAIRS = [(0, 1), (0, 1), (1, 2), (1, 0), (2, 0)]


def small_land():
    return Land(4, PAIRS)


def all_ways(table):
    """Every place, goal and came that has ways, with its ways."""
    land = table.land
    told = {}
    for place in range(land.places):
        for goal in range(land.places):
            for came in [None] + land.into(place):
                ways = table.ways(place, goal, came)
                if ways:
                    told[(place, goal, came)] = ways
    return told


class TestPlainTable(unittest.TestCase):
    def test_land(self):
        land = small_land()
        self.assertIs(Table(land).land, land)

    def test_no_ways_anywhere(self):
        table = Table(small_land())
        self.assertEqual(all_ways(table), {})
        self.assertEqual(table.ways(0, 2, None), [])
        self.assertEqual(table.ways(1, 2, 0), [])
        self.assertIs(type(table.ways(0, 2, None)), list)

    def test_a_list_told_changed_behind_changes_nothing(self):
        table = Table(small_land())
        table.ways(0, 2, None).append(0)
        self.assertEqual(table.ways(0, 2, None), [])
        self.assertEqual(Table(small_land()).ways(0, 2, None), [])


class TestToldTable(unittest.TestCase):
    def test_stands_under_table_and_has_its_land(self):
        land = small_land()
        table = Told(land, [])
        self.assertIsInstance(table, Table)
        self.assertIs(table.land, land)

    def test_no_rows_no_ways(self):
        self.assertEqual(all_ways(Told(small_land(), [])), {})

    def test_rows_tell_the_ways(self):
        rows = [(0, 2, None, [0, 1]), (1, 2, 0, [2]), (1, 2, 1, [2, 3]), (2, 1, None, [4]), (0, 1, 4, [1])]
        told = all_ways(Told(small_land(), rows))
        self.assertEqual(told, {(0, 2, None): [0, 1], (1, 2, 0): [2], (1, 2, 1): [2, 3], (2, 1, None): [4],
                                (0, 1, 4): [1]})

    def test_rows_in_any_order(self):
        rows = [(0, 2, None, [0]), (1, 2, 0, [2]), (0, 2, 3, [1]), (1, 0, None, [3])]
        for some in itertools.permutations(rows):
            told = all_ways(Told(small_land(), list(some)))
            self.assertEqual(told, {(0, 2, None): [0], (1, 2, 0): [2], (0, 2, 3): [1], (1, 0, None): [3]})

    def test_lanes_in_any_order_are_told_rising(self):
        land = Land(2, [(0, 1), (1, 0), (0, 1), (0, 1)])
        for lanes in itertools.permutations([0, 2, 3]):
            self.assertEqual(Told(land, [(0, 1, None, list(lanes))]).ways(0, 1, None), [0, 2, 3])

    def test_lanes_twice_count_once(self):
        table = Told(small_land(), [(0, 2, None, [1, 0, 1, 1]), (1, 2, None, [3, 3])])
        self.assertEqual(table.ways(0, 2, None), [0, 1])
        self.assertEqual(table.ways(1, 2, None), [3])

    def test_a_row_without_lanes(self):
        table = Told(small_land(), [(0, 2, None, []), (1, 2, 0, [2])])
        self.assertEqual(all_ways(table), {(1, 2, 0): [2]})
        self.assertEqual(table.ways(0, 2, None), [])

    def test_rows_left_out_have_no_ways(self):
        table = Told(small_land(), [(1, 2, 0, [2])])
        self.assertEqual(table.ways(1, 2, 0), [2])
        for place, goal, came in ((1, 2, None), (1, 2, 1), (1, 0, 0), (1, 3, 0), (0, 2, None), (2, 1, 2)):
            self.assertEqual(table.ways(place, goal, came), [])

    def test_none_and_lane_0_are_told_apart(self):
        self.assertEqual(Told(small_land(), [(1, 2, None, [2])]).ways(1, 2, 0), [])
        self.assertEqual(Told(small_land(), [(1, 2, 0, [2])]).ways(1, 2, None), [])
        both = Told(small_land(), [(1, 2, 0, [2]), (1, 2, None, [3])])
        self.assertEqual((both.ways(1, 2, 0), both.ways(1, 2, None)), ([2], [3]))

    def test_a_goal_that_no_lane_leads_to(self):
        self.assertEqual(Told(small_land(), [(0, 3, None, [0])]).ways(0, 3, None), [0])

    def test_a_row_at_a_place_that_no_lane_begins_at(self):
        self.assertEqual(Told(small_land(), [(3, 0, None, [])]).ways(3, 0, None), [])

    def test_the_place_as_goal_has_no_ways(self):
        rows = [(place, goal, None, small_land().out_of(place))
                for place in range(4) for goal in range(4) if place != goal]
        table = Told(small_land(), rows)
        for place in range(4):
            for came in [None] + table.land.into(place):
                self.assertEqual(table.ways(place, place, came), [])

    def test_asked_again_answered_alike(self):
        table = Told(small_land(), [(0, 2, None, [1, 0]), (1, 2, 0, [2])])
        for again in range(3):
            self.assertEqual(table.ways(0, 2, None), [0, 1])
            self.assertEqual(table.ways(1, 2, 0), [2])
            self.assertEqual(table.ways(1, 2, 1), [])

    def test_two_tables_of_one_land_stand_apart(self):
        land = small_land()
        first = Told(land, [(0, 2, None, [0])])
        second = Told(land, [(0, 2, None, [1])])
        self.assertEqual(first.ways(0, 2, None), [0])
        self.assertEqual(second.ways(0, 2, None), [1])

    def test_forty_lanes(self):
        land = Land(2, [(0, 1)] * 40)
        table = Told(land, [(0, 1, None, list(range(39, -1, -1)))])
        self.assertEqual(table.ways(0, 1, None), list(range(40)))


class TestBadRows(unittest.TestCase):
    def refused_row(self, rows):
        with self.assertRaises(NoEntry) as caught:
            Told(small_land(), rows)
        return caught.exception.row

    def assert_bad(self, bad):
        good = [(0, 1, None, [0]), (0, 2, None, [1]), (2, 0, 2, [4])]
        for number in range(4):
            with self.subTest(bad=bad, number=number):
                self.assertEqual(self.refused_row(good[:number] + [bad] + good[number:]), number)

    def test_the_place_is_none(self):
        for place in (4, 5, 12, -1, -4):
            self.assert_bad((place, 0, None, []))

    def test_the_goal_is_none(self):
        for goal in (4, 5, 12, -1, -4):
            self.assert_bad((1, goal, None, [2]))

    def test_place_and_goal_are_one(self):
        self.assert_bad((1, 1, None, [2]))
        self.assert_bad((0, 0, None, []))
        self.assert_bad((3, 3, None, []))

    def test_came_is_a_lane_that_ends_elsewhere(self):
        for came in (2, 3, 4):
            self.assert_bad((1, 2, came, [2]))
        self.assert_bad((3, 0, 0, []))

    def test_came_is_no_lane(self):
        for came in (5, 40, -1, -5):
            self.assert_bad((1, 2, came, [2]))

    def test_a_lane_begins_elsewhere(self):
        for lane in (0, 1, 4):
            self.assert_bad((1, 2, None, [lane]))

    def test_a_lane_is_none(self):
        for lane in (5, 40, -1, -2):
            self.assert_bad((1, 2, None, [lane]))

    def test_one_of_several_lanes_is_bad(self):
        for lanes in ([4, 2, 3], [2, 4, 3], [2, 3, 4], [2, -1], [5, 2]):
            self.assert_bad((1, 2, None, lanes))

    def test_truths_are_no_places_and_no_lanes(self):
        self.assert_bad((True, 2, None, [2]))
        self.assert_bad((1, False, None, [2]))
        self.assert_bad((1, 2, True, [2]))
        self.assert_bad((1, 2, False, [2]))
        self.assert_bad((0, 3, None, [True]))
        self.assert_bad((0, 3, None, [False]))

    def test_a_row_ahead_has_the_same(self):
        self.assertEqual(self.refused_row([(0, 2, None, [0]), (0, 2, None, [1])]), 1)
        self.assertEqual(self.refused_row([(0, 2, None, [0]), (0, 2, None, [0])]), 1)
        self.assertEqual(self.refused_row([(1, 2, 0, [2]), (1, 2, 1, [2]), (0, 2, None, []), (1, 2, 0, [])]), 3)

    def test_a_row_ahead_without_lanes_counts(self):
        self.assertEqual(self.refused_row([(0, 2, None, []), (0, 2, None, [1])]), 1)
        self.assertEqual(self.refused_row([(0, 2, None, []), (0, 2, None, [])]), 1)

    def test_rows_unlike_in_one_of_three_are_not_the_same(self):
        rows = [(1, 2, 0, [2]), (1, 2, 1, [2]), (1, 2, None, [2]), (1, 0, 0, [2]), (1, 3, 0, [2]), (2, 1, 2, [4])]
        self.assertEqual(len(all_ways(Told(small_land(), rows))), 6)

    def test_the_first_of_several_bad_ones(self):
        self.assertEqual(self.refused_row([(0, 2, None, [0]), (0, 2, None, [0]), (9, 0, None, [])]), 1)
        self.assertEqual(self.refused_row([(0, 2, None, [0]), (1, 2, 0, [4]), (0, 2, None, [0])]), 1)
        self.assertEqual(self.refused_row([(0, 9, None, []), (9, 0, None, []), (1, 1, None, [])]), 0)
        self.assertEqual(self.refused_row([(0, 2, None, [0]), (1, 2, 0, []), (1, 2, 4, []), (1, 1, 0, [])]), 2)

    def test_a_land_of_one_place_has_only_bad_rows(self):
        land = Land(1, [])
        self.assertEqual(all_ways(Told(land, [])), {})
        with self.assertRaises(NoEntry) as caught:
            Told(land, [(0, 0, None, [])])
        self.assertEqual(caught.exception.row, 0)


class TestNothingIsChanged(unittest.TestCase):
    def test_rows_handed_in_stay(self):
        rows = [(1, 2, 0, [3, 2, 3]), (0, 2, None, [1, 0]), (0, 1, None, [])]
        kept = copy.deepcopy(rows)
        Told(small_land(), rows).ways(1, 2, 0).append(9)
        self.assertEqual(rows, kept)

    def test_rows_handed_in_stay_where_they_are_refused(self):
        rows = [(1, 2, 0, [3, 2, 3]), (0, 2, None, [4, 1])]
        kept = copy.deepcopy(rows)
        with self.assertRaises(NoEntry):
            Told(small_land(), rows)
        self.assertEqual(rows, kept)

    def test_the_land_stays(self):
        land = small_land()
        Told(land, [(1, 2, 0, [3, 2])])
        with self.assertRaises(NoEntry):
            Told(land, [(1, 2, 0, [3, 2]), (1, 1, 0, [])])
        self.assertEqual((land.places, land.lanes), (4, tuple(PAIRS)))

    def test_the_list_of_rows_changed_behind_changes_nothing(self):
        rows = [(1, 2, 0, [2]), (0, 2, None, [0])]
        table = Told(small_land(), rows)
        rows[0] = (1, 2, 0, [3])
        rows.append((0, 1, None, [1]))
        self.assertEqual(all_ways(table), {(1, 2, 0): [2], (0, 2, None): [0]})

    def test_a_list_within_a_row_changed_behind_changes_nothing(self):
        lanes = [2]
        none = []
        table = Told(small_land(), [(1, 2, 0, lanes), (0, 2, None, none)])
        lanes.append(3)
        none.append(0)
        self.assertEqual(all_ways(table), {(1, 2, 0): [2]})
        lanes.clear()
        self.assertEqual(all_ways(table), {(1, 2, 0): [2]})

    def test_lists_told_changed_behind_change_nothing(self):
        table = Told(small_land(), [(1, 2, 0, [2, 3]), (0, 2, None, [])])
        for place, goal, came, ways in ((1, 2, 0, [2, 3]), (0, 2, None, []), (2, 0, None, []), (1, 1, None, [])):
            table.ways(place, goal, came).append(4)
            self.assertEqual(table.ways(place, goal, came), ways)
            table.ways(place, goal, came).clear()
            self.assertEqual(table.ways(place, goal, came), ways)


if __name__ == "__main__":
    unittest.main()
