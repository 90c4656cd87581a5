"""Promises [19] and [20], and [2], [3] and [17] as far as they go."""

import unittest

from samples import (CIRCLE, Keeper, all_tables, all_ways, as_sets, circle_table, endless_table, lost_table, met_pairs,
                     moves_of, nearer_tables, retold, ring_table, ruled_tables, told_tables)
from wormyard.lands import Land
from wormyard.looks import look
from wormyard.makers import Loop, Nearer, RowFirst, Tree
from wormyard.met import lost, met
from wormyard.papers import fault
from wormyard.tables import Table, Told


def longest_rows(table):
    """For each lane the greatest number of moves that lead to it, or None where there are rows without an end."""
    lanes = len(table.land.lanes)
    steps = {(lane, other) for lane, goal, other in moves_of(table)}
    numbers = [0] * lanes
    for again in range(lanes + 1):
        grown = [max([numbers[lane] + 1 for lane, other in steps if other == here] + [0]) for here in range(lanes)]
        if grown == numbers:
            return tuple(numbers)
        numbers = grown
    return None


class TestLost(unittest.TestCase):
    def test_the_first_lost_pair(self):
        self.assertEqual(look(lost_table()), ("lost", (0, 3)))

    def test_it_comes_ahead_of_a_ring(self):
        rows = [(0, 3, None, [0]), (1, 3, 0, [1]), (2, 3, 1, [2]), (0, 3, 2, [0]), (3, 1, None, [4])]
        self.assertEqual(look(Told(Land(4, CIRCLE), rows)), ("lost", (4, 1)))
        self.assertEqual(look(Told(Land(4, CIRCLE), rows[:4]))[0], "ring")

    def test_what_is_not_met_does_not_count(self):
        table = Told(Land(4, CIRCLE), [(0, 1, None, [0]), (2, 1, 1, [3])])
        self.assertEqual(look(table), ("paper", ((0, 0, 0, 0, 0), (2, 0, 0, 0, 0))))


class TestRing(unittest.TestCase):
    def assert_ring(self, table, ring):
        """[19], by its words."""
        pairs = met_pairs(table)
        moves = moves_of(table)
        self.assertIs(type(ring), tuple)
        self.assertTrue(ring)
        lanes = [lane for lane, goal in ring]
        self.assertEqual(len(set(lanes)), len(lanes))
        for number, pair in enumerate(ring):
            self.assertIs(type(pair), tuple)
            self.assertIn(pair, pairs)
            self.assertIn(pair + (lanes[(number + 1) % len(lanes)],), moves)

    def turned(self, ring):
        """A ring from its least lane on."""
        first = ring.index(min(ring))
        return ring[first:] + ring[:first]

    def test_of_several_goals(self):
        word, ring = look(ring_table())
        self.assertEqual(word, "ring")
        self.assert_ring(ring_table(), ring)
        self.assertEqual(self.turned(ring), ((0, 2), (1, 0), (2, 1)))

    def test_of_one_goal(self):
        for table in (circle_table(), endless_table()):
            word, ring = look(table)
            self.assertEqual(word, "ring")
            self.assertEqual(self.turned(ring), ((0, 3), (1, 3), (2, 3)))

    def test_of_two_lanes(self):
        land = Land(3, [(0, 1), (1, 0), (0, 2)])
        table = Told(land, [(0, 2, None, [0]), (1, 2, 0, [1]), (0, 2, 1, [0, 2])])
        word, ring = look(table)
        self.assertEqual(word, "ring")
        self.assertEqual(self.turned(ring), ((0, 2), (1, 2)))

    def test_lanes_that_lead_to_a_ring_or_from_it_are_not_in_it(self):
        land = Land(6, CIRCLE[:3] + [(4, 0), (5, 4), (1, 3)])
        rows = [(5, 3, None, [4]), (4, 3, 4, [3]), (0, 3, 3, [0]), (1, 3, 0, [1, 5]), (2, 3, 1, [2]), (0, 3, 2, [0])]
        table = Told(land, rows)
        word, ring = look(table)
        self.assertEqual(word, "ring")
        self.assertEqual(self.turned(ring), ((0, 3), (1, 3), (2, 3)))

    def test_a_nearer_with_a_ring(self):
        table = Nearer(Land(3, [(0, 1), (1, 2), (2, 0)]))
        word, ring = look(table)
        self.assertEqual(word, "ring")
        self.assert_ring(table, ring)

    def test_all_tables(self):
        rings = 0
        for table in all_tables():
            word, what = look(table)
            if word == "ring":
                rings += 1
                self.assert_ring(table, what)
        self.assertGreater(rings, 20)

    def test_the_same_when_asked_again_and_of_a_table_that_tells_alike(self):
        for table in all_tables():
            first = look(table)
            self.assertEqual(look(table), first)
            self.assertEqual(look(retold(table)), first)
            self.assertEqual(look(Keeper(table)), first)


class TestPaper(unittest.TestCase):
    def test_by_hand(self):
        self.assertEqual(look(Loop(2)), ("paper", ((0, 0, 0, 0), (2, 1, 0, 0))))
        # Lane 3 is for the letters from place 2 to place 1 alone.
        self.assertEqual(look(Loop(3)), ("paper", ((0, 1, 2, 3, 0, 0), (2 + 4, 4 + 1, 1 + 2, 2, 0, 0))))
        self.assertEqual(look(Tree([0])), ("paper", ((0, 0), (1, 2))))
        self.assertEqual(look(Tree([0, 0])), ("paper", ((0, 1, 0, 1), (1 + 4, 2, 1 + 2, 4))))
        self.assertEqual(look(RowFirst(2, 1)), ("paper", ((0, 0), (2, 1))))

    def test_the_greatest_number_of_moves(self):
        land = Land(4, [(2, 3), (1, 2), (0, 1), (0, 2)])
        rows = [(0, 3, None, [2, 3]), (1, 3, 2, [1]), (2, 3, 1, [0]), (2, 3, 3, [0])]
        self.assertEqual(look(Told(land, rows)), ("paper", ((2, 1, 0, 0), (8, 8, 8, 8))))

    def test_a_plain_table(self):
        self.assertEqual(look(Table(Land(4, CIRCLE))), ("paper", ((0,) * 5, (0,) * 5)))
        self.assertEqual(look(Table(Land(1, []))), ("paper", ((), ())))

    def test_starts_without_moves(self):
        land = Land(3, [(0, 1), (1, 2), (2, 0)])
        table = Told(land, [(0, 1, None, [0]), (1, 2, None, [1]), (2, 0, None, [2])])
        self.assertEqual(look(table), ("paper", ((0, 0, 0), (2, 4, 1))))

    def test_tables_made_by_rules(self):
        for table in ruled_tables():
            word, paper = look(table)
            self.assertEqual(word, "paper")
            self.assertIsNone(fault(table, paper))

    def test_numbers_and_sets_of_all_tables(self):
        papers = 0
        for table in all_tables():
            word, what = look(table)
            if word == "paper":
                papers += 1
                self.assertEqual(what, (longest_rows(table), as_sets(table, met_pairs(table))))
                self.assertEqual([type(what), type(what[0]), type(what[1])], [tuple] * 3)
                self.assertEqual(what[1], met(table))
                self.assertIsNone(fault(table, what))
        self.assertGreater(papers, 60)

    def test_a_row_of_forty_lanes(self):
        # Four rounds of ten places; letters go by the first and the second one alone.
        land = Land(10, [(lane % 10, (lane + 1) % 10) for lane in range(40)])
        rows = [(0, 9, None, [0]), (9, 8, None, [9]), (0, 8, 9, [10])]
        rows += [(place, 9, place - 1, [place]) for place in range(1, 9)]
        rows += [(place, 8, 9 + place, [10 + place]) for place in range(1, 8)]
        word, (numbers, sets) = look(Told(land, rows))
        self.assertEqual(word, "paper")
        self.assertEqual(numbers, tuple(range(9)) + (0,) + tuple(range(1, 9)) + (0,) * 22)


class TestJustOneOfThree(unittest.TestCase):
    def test_all_tables(self):
        words = {}
        for table in all_tables():
            told = look(table)
            self.assertEqual((type(told), len(told)), (tuple, 2))
            words[told[0]] = words.get(told[0], 0) + 1
            if lost(table) is not None:
                self.assertEqual(told, ("lost", lost(table)))
            else:
                self.assertEqual(told[0], "ring" if longest_rows(table) is None else "paper")
        self.assertEqual(set(words), {"lost", "ring", "paper"})

    def test_no_paper_beside_a_lost_pair_or_a_ring(self):
        for table in told_tables():
            if look(table)[0] != "paper":
                lanes = len(table.land.lanes)
                every = (1 << table.land.places) - 1
                ends = [some | 1 << table.land.end_of(lane) for lane, some in enumerate(met(table))]
                for sets in (met(table), ends, (every,) * lanes, (0,) * lanes):
                    for numbers in (range(lanes), range(lanes)[::-1], (0,) * lanes):
                        self.assertIsNotNone(fault(table, (tuple(numbers), sets)))

    def test_a_nearer_has_no_lost_pair(self):
        for table in nearer_tables():
            self.assertIn(look(table)[0], ("ring", "paper"))

    def test_the_table_and_its_lists_stay(self):
        for table in all_tables():
            keeper = Keeper(table)
            pair = (table.land.places, table.land.lanes)
            look(keeper)
            self.assertEqual(keeper.kept, all_ways(table))
            self.assertEqual((table.land.places, table.land.lanes), pair)


if __name__ == "__main__":
    unittest.main()
