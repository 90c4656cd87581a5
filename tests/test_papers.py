"""Promise [18], and [2] and [3] as far as it goes."""

import copy
import itertools
import random
import unittest

from samples import (CIRCLE, Keeper, all_tables, all_ways, as_sets, circle_table, endless_table, lost_table, met_pairs,
                     ring_table, ruled_tables)
from wormyard.lands import Land
from wormyard.looks import look
from wormyard.makers import Loop, RowFirst
from wormyard.papers import fault
from wormyard.tables import Table, Told

GREAT = 10 ** 59


def line_table():
    """Letters from place 0 to places 1, 2, 3 along lanes 0, 1, 2; lane 3 goes beside lane 1."""
    land = Land(4, [(0, 1), (1, 2), (2, 3), (1, 2)])
    return Told(land, [(0, 1, None, [0]), (0, 2, None, [0]), (0, 3, None, [0]), (1, 2, 0, [1, 3]), (1, 3, 0, [1, 3]),
                       (2, 3, 1, [2]), (2, 3, 3, [2])])


LINE_MET = (2 + 4 + 8, 4 + 8, 8, 4 + 8)


def line_fault(numbers, sets):
    return fault(line_table(), (numbers, sets))


class TestSize(unittest.TestCase):
    def test_numbers_too_few_and_too_many(self):
        for numbers in ((), (0,), (0, 1, 2), (0, 1, 2, 1, 0), tuple(range(41))):
            self.assertEqual(line_fault(numbers, LINE_MET), ("size",))

    def test_sets_too_few_and_too_many(self):
        for sets in ((), LINE_MET[:3], LINE_MET + (0,)):
            self.assertEqual(line_fault((0, 1, 2, 1), sets), ("size",))

    def test_both_too_few_and_too_many(self):
        self.assertEqual(line_fault((), ()), ("size",))
        self.assertEqual(line_fault((0, 1, 2), LINE_MET[:3]), ("size",))
        self.assertEqual(line_fault((0, 1, 2, 1, 0), LINE_MET + (0,)), ("size",))
        self.assertEqual(line_fault((0, 1, 2), LINE_MET + (0,)), ("size",))

    def test_a_thing_that_is_no_set_of_places(self):
        for lane in range(4):
            for bad in (-1, -16, 16, 17, 16 + LINE_MET[lane], 1 << 12, 1 << 40, 10 ** 60, -(10 ** 60), True, False):
                sets = list(LINE_MET)
                sets[lane] = bad
                with self.subTest(lane=lane, bad=bad):
                    self.assertEqual(line_fault((0, 1, 2, 1), sets), ("size",))

    def test_the_set_of_all_places_is_one(self):
        self.assertEqual(line_fault((0, 1, 2, 1), (15, 15, 15, 15)), ("lost", 0, 0))
        self.assertIsNone(fault(Table(Land(2, [(0, 1), (1, 0)])), ((0, 0), (2, 1))))
        self.assertEqual(fault(Table(Land(2, [(0, 1), (1, 0)])), ((0, 0), (2, 3))), ("lost", 1, 1))
        self.assertEqual(fault(Table(Land(2, [(0, 1), (1, 0)])), ((0, 0), (2, 4))), ("size",))

    def test_it_comes_ahead_of_all_others(self):
        self.assertEqual(line_fault((0, 0, 0), (0, 0, 0, 0)), ("size",))
        self.assertEqual(line_fault((0, 0, 0, 0), (0, 0, 0, -1)), ("size",))
        self.assertEqual(line_fault((5, 4, 3, 2), (14, 0, 0, 16)), ("size",))

    def test_a_land_without_lanes(self):
        self.assertIsNone(fault(Table(Land(3, [])), ((), ())))
        self.assertIsNone(fault(Table(Land(3, [])), ([], [])))
        self.assertEqual(fault(Table(Land(3, [])), ((0,), ())), ("size",))
        self.assertEqual(fault(Table(Land(3, [])), ((), (0,))), ("size",))


class TestStart(unittest.TestCase):
    def test_a_goal_that_the_first_lane_lacks(self):
        self.assertEqual(line_fault((0, 1, 2, 1), (4 + 8, 12, 8, 12)), ("start", 0, 1, 0))
        self.assertEqual(line_fault((0, 1, 2, 1), (2 + 8, 12, 8, 12)), ("start", 0, 2, 0))
        self.assertEqual(line_fault((0, 1, 2, 1), (2 + 4, 12, 8, 12)), ("start", 0, 3, 0))

    def test_by_place_then_goal_then_lane(self):
        land = Land(3, [(2, 0), (1, 0), (0, 1), (1, 2), (0, 1), (1, 2), (2, 1)])
        rows = [(2, 1, None, [0, 6]), (2, 0, None, [0, 6]), (1, 2, None, [3, 5]), (1, 0, None, [1]),
                (0, 2, None, [2, 4])]
        wanted = [("start", 0, 2, 2), ("start", 0, 2, 4), ("start", 1, 0, 1), ("start", 1, 2, 3), ("start", 1, 2, 5),
                  ("start", 2, 0, 0), ("start", 2, 0, 6), ("start", 2, 1, 0), ("start", 2, 1, 6)]
        sets = [0] * 7
        for start in wanted:
            self.assertEqual(fault(Told(land, rows), ([0] * 7, list(sets))), start)
            sets[start[3]] |= 1 << start[2]
        self.assertNotEqual(fault(Told(land, rows), ([0] * 7, sets))[0], "start")

    def test_it_comes_ahead_of_lost_open_and_number(self):
        self.assertEqual(line_fault((9, 0, 0, 0), (1 + 2 + 4, 0, 0, 0)), ("start", 0, 3, 0))
        self.assertEqual(fault(lost_table(), ([0] * 5, [8, 0, 2, 8, 0])), ("start", 2, 3, 2))

    def test_each_start_of_a_table_made_by_rule(self):
        table = RowFirst(3, 2)
        numbers, sets = look(table)[1]
        for (place, goal, came), ways in all_ways(table).items():
            if came is None and ways:
                less = list(sets)
                less[ways[0]] -= 1 << goal
                self.assertEqual(fault(table, (numbers, less)), ("start", place, goal, ways[0]))


class TestLost(unittest.TestCase):
    def test_a_lane_without_ways(self):
        self.assertEqual(line_fault((0, 1, 2, 1), (1 + 14, 12, 8, 12)), ("lost", 0, 0))
        self.assertEqual(line_fault((0, 1, 2, 1), (14, 2 + 12, 8, 12)), ("lost", 1, 1))
        self.assertEqual(line_fault((0, 1, 2, 1), (14, 12, 4 + 8, 12)), ("lost", 2, 2))

    def test_the_lanes_end_is_not_looked_at(self):
        self.assertIsNone(fault(Table(Land(3, [(0, 1), (1, 2)])), ((7, 7), (2, 4))))
        self.assertEqual(fault(Table(Land(3, [(0, 1), (1, 2)])), ((7, 7), (2, 5))), ("lost", 1, 0))

    def test_by_lane_then_by_goal(self):
        self.assertEqual(fault(lost_table(), ([0] * 5, [8, 0, 10, 8, 0])), ("lost", 0, 3))
        self.assertEqual(line_fault((0, 1, 2, 1), (14, 12, 1 + 2 + 4 + 8, 1 + 2 + 4 + 8)), ("lost", 2, 0))
        self.assertEqual(line_fault((0, 1, 2, 1), (14, 12, 8, 1 + 2 + 4 + 8)), ("lost", 3, 0))
        self.assertEqual(line_fault((0, 1, 2, 1), (14, 12, 8, 2 + 4 + 8)), ("lost", 3, 1))

    def test_what_is_in_the_paper_counts_not_what_is_met(self):
        table = Told(Land(4, CIRCLE), [(0, 1, None, [0])])
        self.assertIsNone(fault(table, ([0] * 5, [2, 0, 0, 0, 0])))
        self.assertEqual(fault(table, ([0] * 5, [2, 0, 0, 0, 2])), ("lost", 4, 1))


class TestOpenAndNumber(unittest.TestCase):
    def test_open(self):
        self.assertEqual(line_fault((0, 1, 2, 1), (14, 8, 8, 12)), ("open", 0, 2, 1))
        self.assertEqual(line_fault((0, 1, 2, 1), (14, 12, 8, 8)), ("open", 0, 2, 3))
        self.assertEqual(line_fault((0, 1, 2, 1), (14, 12, 8, 4)), ("open", 0, 3, 3))
        self.assertEqual(line_fault((0, 1, 2, 1), (14, 12, 0, 12)), ("open", 1, 3, 2))

    def test_number(self):
        self.assertEqual(line_fault((1, 1, 2, 2), LINE_MET), ("number", 0, 2, 1))
        self.assertEqual(line_fault((1, 2, 3, 1), LINE_MET), ("number", 0, 2, 3))
        self.assertEqual(line_fault((0, 1, 1, 2), LINE_MET), ("number", 1, 3, 2))
        self.assertEqual(line_fault((0, 1, 2, 2), LINE_MET), ("number", 3, 3, 2))

    def test_of_each_way_open_comes_ahead_of_number(self):
        self.assertEqual(line_fault((1, 1, 2, 2), (14, 8, 8, 12)), ("open", 0, 2, 1))
        self.assertEqual(line_fault((1, 2, 3, 1), (14, 12, 8, 8)), ("open", 0, 2, 3))

    def test_an_earlier_way_comes_ahead_of_a_later_one(self):
        self.assertEqual(line_fault((1, 1, 2, 2), (14, 12, 8, 8)), ("number", 0, 2, 1))
        self.assertEqual(line_fault((1, 1, 2, 1), (14, 12, 8, 12)), ("number", 0, 2, 1))

    def test_an_earlier_goal_comes_ahead_of_a_later_one(self):
        self.assertEqual(line_fault((0, 1, 2, 1), (15, 0, 0, 0)), ("lost", 0, 0))
        self.assertEqual(line_fault((0, 1, 2, 0), (14, 4, 8, 12)), ("number", 0, 2, 3))

    def test_an_earlier_lane_comes_ahead_of_a_later_one(self):
        self.assertEqual(line_fault((0, 0, 2, 1), (14, 15, 8, 12)), ("number", 0, 2, 1))
        self.assertEqual(line_fault((0, 1, 1, 1), (14, 12, 15, 12)), ("number", 1, 3, 2))

    def test_numbers_alike_are_at_fault_where_a_move_leads(self):
        for number in (0, 7, -7, GREAT):
            self.assertEqual(line_fault([number] * 4, LINE_MET), ("number", 0, 2, 1))
            self.assertIsNone(fault(Table(Land(4, CIRCLE)), ([number] * 5, [0] * 5)))

    def test_numbers_below_nought(self):
        self.assertIsNone(line_fault((-3, -2, -1, -2), LINE_MET))
        self.assertIsNone(line_fault((-3, -1, 0, -2), LINE_MET))
        self.assertEqual(line_fault((-1, -2, -3, -2), LINE_MET), ("number", 0, 2, 1))

    def test_numbers_of_sixty_figures(self):
        self.assertEqual(len(str(GREAT)), 60)
        self.assertIsNone(line_fault((GREAT, GREAT + 1, GREAT + 2, GREAT + 1), LINE_MET))
        self.assertIsNone(line_fault((-GREAT, -GREAT + 1, GREAT, 0), LINE_MET))
        self.assertEqual(line_fault((GREAT, GREAT + 1, GREAT + 1, GREAT + 1), LINE_MET), ("number", 1, 3, 2))
        self.assertEqual(line_fault((GREAT, GREAT - 1, GREAT, GREAT), LINE_MET), ("number", 0, 2, 1))


def faults(table, paper):
    """All faults of a paper of the right size, in the order of [18]."""
    numbers, sets = paper
    land = table.land
    in_paper = {(lane, goal) for lane in range(len(sets)) for goal in range(land.places) if sets[lane] & 1 << goal}
    for place in range(land.places):
        for goal in range(land.places):
            for lane in table.ways(place, goal, None):
                if (lane, goal) not in in_paper:
                    yield "start", place, goal, lane
    for lane, goal in sorted(in_paper):
        end = land.lanes[lane][1]
        if end == goal:
            continue
        if not table.ways(end, goal, lane):
            yield "lost", lane, goal
        for way in table.ways(end, goal, lane):
            if (way, goal) not in in_paper:
                yield "open", lane, goal, way
            if not numbers[way] > numbers[lane]:
                yield "number", lane, goal, way


class TestAllTables(unittest.TestCase):
    def some_papers(self, table, chance):
        lanes, most = len(table.land.lanes), (1 << table.land.places) - 1
        there = as_sets(table, met_pairs(table))
        rising = list(range(lanes))
        chance.shuffle(rising)
        yield tuple(rising), there
        yield rising, [chance.randint(0, most) for lane in range(lanes)]
        yield [chance.randint(-9, 9) for lane in range(lanes)], [some | 1 << chance.randrange(most.bit_length())
                                                                   for some in there]
        yield (0,) * lanes, [some & chance.randint(0, most) for some in there]
        yield list(range(lanes)), (0,) * lanes
        yield range(lanes)[::-1], (most,) * lanes

    def test_the_first_fault_of_any_paper(self):
        chance = random.Random(5)
        words = {}
        for table in all_tables():
            for numbers, sets in self.some_papers(table, chance):
                told = fault(table, (tuple(numbers), sets))
                self.assertEqual(told, next(faults(table, (numbers, sets)), None))
                word = None if told is None else told[0]
                words[word] = words.get(word, 0) + 1
        self.assertEqual(set(words), {None, "start", "lost", "open", "number"})
        self.assertGreater(min(words.values()), 15)

    def test_lists_and_tuples_alike(self):
        chance = random.Random(6)
        for table in all_tables():
            for numbers, sets in self.some_papers(table, chance):
                told = fault(table, (list(numbers), list(sets)))
                self.assertEqual(told, fault(table, (tuple(numbers), tuple(sets))))
                self.assertEqual(told, fault(table, (list(numbers), tuple(sets))))
                self.assertEqual(told, fault(table, (tuple(numbers), list(sets))))
                self.assertTrue(told is None or type(told) is tuple)

    def test_papers_without_fault(self):
        for table in ruled_tables():
            numbers, sets = look(table)[1]
            self.assertIsNone(fault(table, (numbers, sets)))
            self.assertIsNone(fault(table, ([7 * number - 100 for number in numbers], list(sets))))
            ends = [some | 1 << table.land.end_of(lane) for lane, some in enumerate(sets)]
            self.assertIsNone(fault(table, (numbers, ends)))
        self.assertIsNone(line_fault((0, 1, 2, 1), LINE_MET))
        self.assertIsNone(line_fault([5, 6, 40, 39], list(LINE_MET)))
        self.assertIsNone(fault(Loop(2), ((0, 1, 2, 3), (2, 1, 0, 0))))

    def test_a_table_with_a_lost_pair_or_a_ring_has_none(self):
        ring = Told(Land(2, [(0, 1), (1, 0)]), [(0, 1, None, [0]), (1, 0, None, [1])])
        self.assertIsNone(fault(ring, ((0, 0), (2, 1))))
        small = [ring_table(), Told(Land(3, CIRCLE[:3]), [(0, 2, None, [0])]),
                 Told(Land(3, CIRCLE[:3]), [(0, 2, None, [0]), (1, 0, None, [1]), (2, 0, 1, [2])])]
        for table in small:
            self.assertIn(look(table)[0], ("lost", "ring"))
            for sets in itertools.product(range(8), repeat=3):
                for numbers in itertools.product(range(3), repeat=3):
                    self.assertIsNotNone(fault(table, (numbers, sets)))
        for sets in itertools.product((8, 15), repeat=5):
            for numbers in itertools.permutations(range(5)):
                self.assertIsNotNone(fault(circle_table(), (numbers, sets)))
                self.assertIsNotNone(fault(endless_table(), (numbers, sets)))


class TestNothingIsChanged(unittest.TestCase):
    def test_what_is_handed_in_stays(self):
        for paper in (([0, 1, 2, 1], list(LINE_MET)), ([1, 1, 2, 2], list(LINE_MET)), ([0, 1, 2], [1]),
                      ([0, 1, 2, 1], [14, 8, 8, 12]), ([0, 1, 2, 1], [0, 0, 0, 0]), ([0, 1, 2, 1], [15, 15, 15, 15])):
            kept = copy.deepcopy(paper)
            first = fault(line_table(), paper)
            self.assertEqual(paper, kept)
            self.assertEqual(fault(line_table(), paper), first)

    def test_the_table_and_its_lists_stay(self):
        for table in all_tables():
            keeper = Keeper(table)
            lanes = len(table.land.lanes)
            paper = (list(range(lanes)), list(as_sets(table, met_pairs(table))))
            self.assertEqual(fault(keeper, paper), fault(table, paper))
            self.assertEqual(keeper.kept, all_ways(table))


if __name__ == "__main__":
    unittest.main()
