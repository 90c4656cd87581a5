"""Promises [37] to [39], and [2] and [3] as far as they go."""

import random
import unittest

from samples import (CIRCLE, Keeper, all_tables, all_ways, as_sets, circle_table, endless_table, lost_table, met_pairs,
                     ring_table, ruled_tables)
from wormyard.bits import members, set_of
from wormyard.lands import Land
from wormyard.less import Less
from wormyard.looks import look
from wormyard.makers import Loop, Nearer, RowFirst, Tree
from wormyard.met import lost, met, starts
from wormyard.papers import fault
from wormyard.tables import Table, Told


def alive_pairs(table, out):
    """The pairs (lane, goal) that are alive, grown from the lanes that end at the goal until none comes to them."""
    ends = [end for start, end in table.land.lanes]
    left = [lane for lane in range(len(ends)) if lane not in members(out)]
    alive = {(lane, ends[lane]) for lane in left}
    before = set()
    while before != alive:
        before = set(alive)
        for lane in left:
            for goal in range(table.land.places):
                if ends[lane] != goal and any((way, goal) in before for way in table.ways(ends[lane], goal, lane)):
                    alive.add((lane, goal))
    return alive


def ways_left(table, out):
    alive = alive_pairs(table, out)
    return {(place, goal, came): [way for way in lanes if (way, goal) in alive]
            for (place, goal, came), lanes in all_ways(table).items()}


def some_out(chance, table):
    """Some sets of lanes of a table: none, one, some, all, and some with bits beyond the lanes."""
    lanes = len(table.land.lanes)
    every = (1 << lanes) - 1
    one = 1 << chance.randrange(lanes) if lanes else 0
    few = set_of([chance.randrange(lanes) for number in range(3)]) if lanes else 0
    return [0, one, few, chance.randint(0, every), every, few | 1 << lanes, one | 1 << 40, few | 1 << 200, 5 << lanes]


def two_ways():
    """From place 0 to place 3 by lanes 0 and 2 or by lanes 1 and 3; lane 4 is a way that leads no further."""
    land = Land(5, [(0, 1), (0, 2), (1, 3), (2, 3), (2, 4)])
    return Told(land, [(0, 3, None, [0, 1]), (1, 3, 0, [2]), (2, 3, 1, [3, 4]), (0, 1, None, [0]), (2, 4, None, [4])])


class TestByHand(unittest.TestCase):
    def test_no_lane_taken_out(self):
        less = Less(two_ways(), 0)
        self.assertEqual(less.ways(0, 3, None), [0, 1])
        # Lane 4 is lost for place 3, so it is alive for place 4 alone.
        self.assertEqual(less.ways(2, 3, 1), [3])
        self.assertEqual(less.ways(2, 4, None), [4])
        self.assertEqual(less.cut_off(), [])

    def test_a_lane_taken_out_and_those_ahead_of_it(self):
        less = Less(two_ways(), set_of([2]))
        self.assertEqual(less.ways(0, 3, None), [1])
        self.assertEqual(less.ways(1, 3, 0), [])
        self.assertEqual(less.ways(0, 1, None), [0])
        self.assertEqual(less.cut_off(), [])

    def test_starts_cut_off(self):
        less = Less(two_ways(), set_of([2, 3]))
        self.assertEqual(less.ways(0, 3, None), [])
        self.assertEqual(less.cut_off(), [(0, 3)])
        self.assertEqual(Less(two_ways(), set_of([0, 4])).cut_off(), [(0, 1), (2, 4)])
        self.assertEqual(Less(two_ways(), 31).cut_off(), [(0, 1), (0, 3), (2, 4)])

    def test_bits_that_are_no_lanes_number_count_for_nothing(self):
        for out in (1 << 5, 1 << 40, 1 << 1000, (1 << 60) - (1 << 5)):
            less = Less(two_ways(), out)
            self.assertEqual(less.ways(0, 3, None), [0, 1])
            self.assertEqual(less.cut_off(), [])
            self.assertEqual(all_ways(Less(two_ways(), out | 4)), all_ways(Less(two_ways(), 4)))

    def test_the_same_land(self):
        table = two_ways()
        less = Less(table, 7)
        self.assertIs(less.land, table.land)
        self.assertEqual(less.land.lanes, two_ways().land.lanes)
        self.assertIsInstance(less, Table)

    def test_a_plain_table(self):
        less = Less(Table(Land(4, CIRCLE)), 3)
        self.assertEqual(set(map(tuple, all_ways(less).values())), {()})
        self.assertEqual(less.cut_off(), [])
        self.assertEqual(Less(Table(Land(1, [])), 9).cut_off(), [])

    def test_what_goes_round_is_not_alive(self):
        self.assertEqual(Less(endless_table(), 0).cut_off(), [(1, 3)])
        self.assertEqual(all_ways(Less(endless_table(), 0))[(1, 3, None)], [])
        less = Less(circle_table(), 0)
        # Each lane of the circle is alive, as lane 3 can be come to by it.
        self.assertEqual(less.ways(2, 3, 1), [2, 3])
        self.assertEqual(Less(circle_table(), 8).cut_off(), [(0, 3)])

    def test_lost_starts_are_cut_off_though_no_lane_is_taken_out(self):
        less = Less(lost_table(), 0)
        self.assertEqual(less.cut_off(), [(0, 3), (2, 1)])
        self.assertEqual(less.ways(2, 3, None), [3])

    def test_come_by_a_lane_taken_out(self):
        less = Less(two_ways(), 1)
        self.assertEqual(less.ways(1, 3, 0), [2])

    def test_the_way_hangs_on_the_lane_come_by(self):
        land = Land(4, [(0, 1), (0, 1), (1, 2), (1, 3), (3, 2)])
        table = Told(land, [(0, 2, None, [0, 1]), (1, 2, 0, [2]), (1, 2, 1, [3]), (3, 2, 3, [4])])
        self.assertEqual(Less(table, 1 << 2).ways(0, 2, None), [1])
        self.assertEqual(Less(table, 1 << 4).ways(0, 2, None), [0])
        self.assertEqual(Less(table, 1 << 4).ways(1, 2, 1), [])

    def test_tables_made_by_rules(self):
        self.assertEqual(Less(RowFirst(2, 1), 1).cut_off(), [(0, 1)])
        self.assertEqual(Less(Tree([0, 0]), 2).cut_off(), [(0, 1), (2, 1)])
        self.assertEqual(Less(Loop(3), 1 << 3).cut_off(), [(2, 1)])
        # Nearer has the other lane left.
        self.assertEqual(Less(Nearer(Land(2, [(0, 1), (0, 1)])), 1).ways(0, 1, None), [1])
        self.assertEqual(Less(Nearer(Land(2, [(0, 1), (0, 1)])), 1).cut_off(), [])
        # But no way round, where that is not nearer.
        self.assertEqual(Less(Nearer(Land(3, [(0, 2), (0, 1), (1, 2)])), 1).cut_off(), [(0, 2)])


class TestAllTables(unittest.TestCase):
    def each(self, step=1):
        chance = random.Random(1)
        for table in all_tables()[::step]:
            for out in some_out(chance, table):
                yield table, out, Less(table, out)

    def test_ways_against_a_count_of_its_own(self):
        for table, out, less in self.each():
            self.assertEqual(all_ways(less), ways_left(table, out))

    def test_starts_cut_off(self):
        some = 0
        for table, out, less in self.each():
            cut, left = less.cut_off(), starts(less)
            self.assertEqual(cut, [pair for pair in starts(table) if pair not in left])
            self.assertEqual(cut, sorted(set(cut)))
            some += bool(cut)
        self.assertGreater(some, 500)

    def test_no_lost_pair_and_no_lane_taken_out(self):
        for table, out, less in self.each():
            self.assertIsNone(lost(less))
            for lane in members(out):
                if lane < len(table.land.lanes):
                    self.assertEqual(met(less)[lane], 0)

    def test_rows_without_a_lane_taken_out_are_still_there(self):
        chance = random.Random(2)
        rows = 0
        for table, out, less in self.each(3):
            for place, goal in starts(table):
                row, here, came = [], place, None
                while here != goal and len(row) < 50:
                    ways = table.ways(here, goal, came)
                    if not ways:
                        break
                    came = chance.choice(ways)
                    here = table.land.end_of(came)
                    row.append((came, ways))
                if here == goal and not set(members(out)) & {lane for lane, ways in row}:
                    rows += 1
                    here, came = place, None
                    for lane, ways in row:
                        self.assertIn(lane, less.ways(here, goal, came))
                        here, came = less.land.end_of(lane), lane
        self.assertGreater(rows, 1000)

    def test_each_way_left_stands_in_such_a_row(self):
        for table, out, less in self.each(4):
            self.assertTrue(met_pairs(less) <= alive_pairs(less, 0))

    def test_papers_stay_without_fault(self):
        papers = 0
        for table, out, less in self.each():
            word, paper = look(table)
            if word == "paper":
                papers += 1
                self.assertIsNone(fault(less, (paper[0], as_sets(less, met_pairs(less)))))
                self.assertEqual(look(less)[0], "paper")
        self.assertGreater(papers, 500)

    def test_of_what_is_left_itself(self):
        chance = random.Random(3)
        for table, out, less in self.each(3):
            more = chance.choice(some_out(chance, table))
            again = Less(less, more)
            self.assertEqual(all_ways(again), ways_left(less, more))
            self.assertEqual(again.cut_off(), sorted(set(starts(less)) - set(starts(again))))

    def test_one_behind_the_other_in_either_order_and_both_at_once(self):
        chance = random.Random(4)
        for table, out, less in self.each(2):
            more = chance.choice(some_out(chance, table))
            both = all_ways(Less(table, out | more))
            self.assertEqual(all_ways(Less(less, more)), both)
            self.assertEqual(all_ways(Less(Less(table, more), out)), both)
            self.assertEqual(all_ways(Less(less, out)), all_ways(less))


class TestNothingIsChanged(unittest.TestCase):
    def test_the_first_table_tells_as_before(self):
        for table in all_tables():
            keeper = Keeper(table)
            less = Less(keeper, 5)
            for ways in all_ways(less).values():
                ways.append(99)
            less.cut_off().append((9, 9))
            self.assertEqual(keeper.kept, all_ways(table))
            self.assertEqual(all_ways(less), ways_left(table, 5))
            self.assertEqual(less.cut_off(), Less(table, 5).cut_off())

    def test_kinds(self):
        less = Less(ring_table(), 1)
        self.assertIs(type(less.ways(0, 2, None)), list)
        self.assertIs(type(less.cut_off()), list)
        for pair in less.cut_off():
            self.assertIs(type(pair), tuple)

    def test_again_and_again(self):
        less = RowFirst(3, 2)
        for number in range(1500):
            less = Less(less, 1 << number % 2)
        self.assertEqual(all_ways(less), ways_left(RowFirst(3, 2), 3))
        self.assertEqual(less.cut_off(), [])

    def test_all_rules(self):
        for table in ruled_tables():
            every = (1 << len(table.land.lanes)) - 1
            self.assertEqual(Less(table, 0).cut_off(), [])
            self.assertEqual(all_ways(Less(table, 0))[(0, table.land.places - 1, None)],
                             table.ways(0, table.land.places - 1, None))
            self.assertEqual(Less(table, every).cut_off(), starts(table))


if __name__ == "__main__":
    unittest.main()
