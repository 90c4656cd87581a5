"""Promises [9], [10] and [11], and [2] as far as they go."""

import unittest

from samples import (CIRCLE, Keeper, all_tables, all_ways, as_sets, circle_table, endless_table, lost_table, met_pairs,
                     told_tables)
from wormyard.errors import NotMet
from wormyard.lands import Land
from wormyard.makers import Loop, Nearer, RowFirst, Tree
from wormyard.met import lost, met, starts, way_to
from wormyard.tables import Table, Told


class TestStarts(unittest.TestCase):
    def test_a_told_table_rising_whatever_the_order_of_its_rows(self):
        land = Land(4, CIRCLE)
        rows = [(2, 3, None, [3]), (0, 3, None, [0]), (2, 0, None, [2]), (0, 1, None, [0])]
        for some in (rows, rows[::-1], rows[2:] + rows[:2]):
            self.assertEqual(starts(Told(land, some)), [(0, 1), (0, 3), (2, 0), (2, 3)])

    def test_rows_without_lanes_are_no_starts(self):
        self.assertEqual(starts(Told(Land(4, CIRCLE), [(0, 3, None, []), (1, 3, None, [1])])), [(1, 3)])

    def test_rows_for_those_who_came_are_no_starts(self):
        self.assertEqual(starts(Told(Land(4, CIRCLE), [(0, 3, 2, [0]), (0, 3, 4, [0])])), [])

    def test_a_plain_table_has_none(self):
        for land in (Land(4, CIRCLE), Land(1, []), Land(12, [])):
            self.assertEqual(starts(Table(land)), [])

    def test_all_tables(self):
        for table in all_tables():
            own = sorted((place, goal) for (place, goal, came), ways in all_ways(table).items()
                         if came is None and ways)
            told = starts(table)
            self.assertEqual(told, own)
            self.assertIs(type(told), list)

    def test_a_told_list_that_is_changed_changes_nothing(self):
        for table in (circle_table(), Table(Land(4, CIRCLE))):
            kept = list(starts(table))
            starts(table).append((9, 9))
            starts(table).clear()
            self.assertEqual(starts(table), kept)


class TestMet(unittest.TestCase):
    def test_by_hand(self):
        self.assertEqual(met(circle_table()), (8, 8, 8, 8, 0))
        self.assertEqual(met(endless_table()), (8, 8, 8, 0, 0))
        self.assertEqual(met(lost_table()), (8, 0, 2 + 8, 8, 0))

    def test_ways_that_no_head_comes_to_are_not_met(self):
        table = Told(Land(4, CIRCLE), [(0, 2, None, [0]), (2, 3, 1, [3]), (1, 3, 0, [1])])
        self.assertEqual(met(table), (4, 0, 0, 0, 0))

    def test_ways_come_by_another_lane_do_not_count(self):
        land = Land(3, [(0, 1), (0, 1), (1, 2), (1, 2)])
        table = Told(land, [(0, 2, None, [0]), (1, 2, 0, [2]), (1, 2, 1, [3]), (1, 2, None, [])])
        self.assertEqual(met(table), (4, 0, 4, 0))

    def test_a_lane_that_ends_at_its_goal_leads_no_further(self):
        table = Told(Land(4, CIRCLE), [(0, 1, None, [0]), (1, 2, 0, [1]), (1, 3, 0, [1])])
        self.assertEqual(met(table), (2, 0, 0, 0, 0))

    def test_a_start_beside_the_way_of_another_one(self):
        table = Told(Land(4, CIRCLE), [(1, 3, None, [1]), (2, 3, None, [3]), (2, 3, 1, [2])])
        self.assertEqual(met(table), (0, 8, 8, 8, 0))

    def test_a_plain_table(self):
        self.assertEqual(met(Table(Land(4, CIRCLE))), (0, 0, 0, 0, 0))
        self.assertEqual(met(Table(Land(4, []))), ())

    def test_all_tables_against_a_count_of_its_own(self):
        for table in all_tables():
            told = met(table)
            self.assertEqual(told, as_sets(table, met_pairs(table)))
            self.assertIs(type(told), tuple)
            self.assertEqual(met(table), told)

    def test_tables_that_go_round_and_lanes_that_end_at_their_goal_are_among_them(self):
        ends = [(lane, goal) for table in told_tables() for lane, goal in met_pairs(table)
                if table.land.lanes[lane][1] == goal]
        self.assertGreater(len(ends), 100)
        self.assertGreater(sum(1 for table in told_tables() if goes_round(table)), 20)


def goes_round(table):
    """Whether some head can come by one lane twice."""
    pairs = met_pairs(table)
    for lane, goal in pairs:
        seen = set()
        line = [lane]
        while line:
            end = table.land.lanes[line[-1]][1]
            for way in table.ways(end, goal, line.pop()):
                if way == lane:
                    return True
                if way not in seen:
                    seen.add(way)
                    line.append(way)
    return False


class TestWayTo(unittest.TestCase):
    def assert_way(self, table, lane, goal, row):
        """[10], by its words."""
        land = table.land
        self.assertIs(type(row), tuple)
        self.assertTrue(row)
        self.assertEqual(row[-1], lane)
        self.assertEqual(len(set(row)), len(row))
        self.assertIn(row[0], table.ways(land.lanes[row[0]][0], goal, None))
        for ahead, following in zip(row, row[1:]):
            end = land.lanes[ahead][1]
            self.assertNotEqual(end, goal)
            self.assertIn(following, table.ways(end, goal, ahead))

    def test_where_there_is_but_one(self):
        self.assertEqual(way_to(circle_table(), 0, 3), (0,))
        self.assertEqual(way_to(circle_table(), 1, 3), (0, 1))
        self.assertEqual(way_to(circle_table(), 2, 3), (0, 1, 2))
        self.assertEqual(way_to(circle_table(), 3, 3), (0, 1, 3))
        self.assertEqual(way_to(endless_table(), 0, 3), (1, 2, 0))

    def test_not_met_by_hand(self):
        for lane, goal in ((4, 3), (0, 0), (0, 1), (0, 2), (3, 0), (4, 0)):
            with self.assertRaises(NotMet):
                way_to(circle_table(), lane, goal)

    def test_a_plain_table_has_no_way(self):
        for lane in range(len(CIRCLE)):
            for goal in range(4):
                with self.assertRaises(NotMet):
                    way_to(Table(Land(4, CIRCLE)), lane, goal)

    def test_each_lane_and_goal_of_all_tables(self):
        for table in all_tables():
            pairs = met_pairs(table)
            for lane in range(len(table.land.lanes)):
                for goal in range(table.land.places):
                    if (lane, goal) in pairs:
                        row = way_to(table, lane, goal)
                        self.assert_way(table, lane, goal, row)
                    else:
                        with self.assertRaises(NotMet):
                            way_to(table, lane, goal)

    def test_the_same_when_it_is_asked_again(self):
        for table in told_tables()[:40]:
            for lane, goal in sorted(met_pairs(table)):
                self.assertEqual(way_to(table, lane, goal), way_to(table, lane, goal))

    def test_lanes_and_goals_that_are_none_are_not_met(self):
        for lane, goal in ((5, 3), (-1, 3), (-5, 3), (100, 3), (0, 4), (0, -1), (0, 99), (-1, -1), (99, 99)):
            with self.subTest(lane=lane, goal=goal):
                with self.assertRaises(NotMet):
                    way_to(circle_table(), lane, goal)

    def test_goals_that_are_none_are_not_met_by_tables_made_by_rules(self):
        for table in (Loop(3), RowFirst(3, 1), Tree([0, 1]), Nearer(Land(3, CIRCLE[:3]))):
            for lane in range(-1, len(table.land.lanes) + 1):
                for goal in (3, 4, 12, -1, -3):
                    with self.assertRaises(NotMet):
                        way_to(table, lane, goal)

    def test_truths_are_no_lanes_and_no_goals(self):
        table = Told(Land(2, [(0, 1), (1, 0)]), [(0, 1, None, [0]), (1, 0, None, [1])])
        for lane, goal in ((True, 0), (False, 1), (0, True), (1, False)):
            with self.assertRaises(NotMet):
                way_to(table, lane, goal)


class TestLost(unittest.TestCase):
    def test_by_lane_and_then_by_goal(self):
        self.assertEqual(lost(lost_table()), (0, 3))
        table = Told(Land(4, CIRCLE), [(2, 3, None, [2, 3]), (2, 1, None, [2]), (1, 2, None, [1])])
        self.assertEqual(lost(table), (2, 1))
        table = Told(Land(4, CIRCLE), [(1, 3, None, [1]), (2, 1, None, [2]), (0, 1, 2, [0])])
        self.assertEqual(lost(table), (1, 3))

    def test_a_lane_that_ends_at_its_goal_is_not_lost(self):
        self.assertIsNone(lost(Told(Land(4, CIRCLE), [(0, 1, None, [0]), (2, 3, None, [3])])))

    def test_what_is_not_met_is_not_lost(self):
        self.assertIsNone(lost(Told(Land(4, CIRCLE), [(0, 3, 2, [0]), (1, 3, 0, [1])])))

    def test_going_round_is_not_lost(self):
        self.assertIsNone(lost(circle_table()))
        self.assertIsNone(lost(endless_table()))

    def test_a_plain_table_has_none(self):
        self.assertIsNone(lost(Table(Land(4, CIRCLE))))
        self.assertIsNone(lost(Table(Land(1, []))))

    def test_all_tables(self):
        some = 0
        for table in all_tables():
            own = [(lane, goal) for lane, goal in sorted(met_pairs(table))
                   if table.land.lanes[lane][1] != goal and not table.ways(table.land.lanes[lane][1], goal, lane)]
            self.assertEqual(lost(table), own[0] if own else None)
            self.assertEqual(lost(table), own[0] if own else None)
            some += len(own) > 1
        self.assertGreater(some, 20)


class TestNothingIsChanged(unittest.TestCase):
    def test_the_table_and_its_lists_stay(self):
        for table in all_tables():
            keeper = Keeper(table)
            pair = (table.land.places, table.land.lanes)
            self.assertEqual((starts(keeper), met(keeper), lost(keeper)), (starts(table), met(table), lost(table)))
            for lane, goal in sorted(met_pairs(table))[:5]:
                self.assertEqual(way_to(keeper, lane, goal), way_to(table, lane, goal))
            self.assertEqual(keeper.kept, all_ways(table))
            self.assertEqual((table.land.places, table.land.lanes), pair)

    def test_lists_told_by_a_table_changed_behind_change_nothing(self):
        table = circle_table()
        kept = (starts(table), met(table), lost(table), way_to(table, 3, 3))
        for ways in all_ways(table).values():
            ways.append(4)
        self.assertEqual((starts(table), met(table), lost(table), way_to(table, 3, 3)), kept)


if __name__ == "__main__":
    unittest.main()
