"""Promises [34] to [36], and [2] and [3] as far as they go."""

import copy
import random
import unittest

from samples import (CIRCLE, Keeper, all_tables, all_told, all_ways, circle_table, do_some, endless_table, lost_table,
                     moves_by_told, moves_of, nearer_tables, retold, ring_table, ruled_tables, some_yard, some_yards,
                     stood, told_tables, wanted_by_told)
from wormyard.lands import Land
from wormyard.looks import look
from wormyard.makers import Loop, Nearer, RowFirst, Tree
from wormyard.runs import run
from wormyard.stands import search, stand_of, still, waits
from wormyard.tables import Table, Told
from wormyard.yards import Yard


def ring_yard(*lengths):
    """A yard of the ring's table with a letter of each place, none of them moved."""
    yard = Yard(ring_table())
    for place, length in enumerate(lengths):
        yard.post(place, (place + 2) % 3, length)
    return yard


class TestStill(unittest.TestCase):
    def test_by_hand(self):
        yard = ring_yard(1, 1, 1)
        for place in range(3):
            self.assertIs(still(yard), False)
            yard.do(("in", place, place))
        self.assertIs(still(yard), True)

    def test_an_ended_yard_is_not_still(self):
        self.assertIs(still(Yard(ring_table())), False)
        self.assertIs(still(Yard(Table(Land(1, [])))), False)
        yard = ring_yard(2)
        run(yard, lambda moves: 0, 100)
        self.assertEqual(yard.moves(), [])
        self.assertIs(still(yard), False)

    def test_a_lost_head_and_one_that_went_round(self):
        yard = Yard(lost_table())
        yard.post(0, 3, 1)
        yard.do(("in", 0, 0))
        self.assertIs(still(yard), True)
        yard = Yard(endless_table())
        yard.post(1, 3, 1)
        run(yard, lambda moves: 0, 4)
        self.assertIs(still(yard), False)
        run(yard, lambda moves: 0, 9)
        self.assertIs(still(yard), True)

    def test_a_letter_posted_makes_it_go_on(self):
        yard = Yard(lost_table())
        yard.post(0, 3, 1)
        yard.do(("in", 0, 0))
        yard.post(2, 1, 1)
        self.assertIs(still(yard), False)

    def test_many_yards_behind_each_move(self):
        chance = random.Random(1)
        found = 0
        for yard in some_yards(2, letters=6):
            for again in do_some(chance, yard, 80):
                lying = sum(len(pieces) for pieces in stood(yard)[3])
                wanted = not moves_by_told(yard) and lying < sum(told[2] for told in stood(yard)[1])
                self.assertIs(still(yard), wanted)
                found += wanted
        self.assertGreater(found, 30)


class TestWaits(unittest.TestCase):
    def test_by_hand(self):
        yard = ring_yard(2, 1, 1)
        self.assertEqual(waits(yard), [])
        yard.do(("in", 0, 0))
        self.assertEqual(waits(yard), [(0, (1,))])
        yard.do(("on", 0, 1))
        self.assertEqual(waits(yard), [(1, ())])
        yard.do(("back", 0))
        yard.do(("in", 0, 0))
        self.assertEqual(waits(yard), [(0, (1,)), (1, ())])
        self.assertIs(type(waits(yard)[0]), tuple)
        self.assertIs(type(waits(yard)[0][1]), tuple)

    def test_of_a_head_the_ways_that_are_not_in_its_way(self):
        yard = Yard(circle_table())
        yard.post(0, 3, 1)
        yard.do(("in", 0, 0))
        yard.do(("on", 0, 1))
        self.assertEqual(waits(yard), [(1, (2, 3))])
        yard.do(("on", 1, 2))
        self.assertEqual(waits(yard), [(2, ())])
        self.assertEqual(yard.table.ways(0, 3, 2), [0])

    def test_of_another_piece_the_next_lane_of_its_way(self):
        yard = Yard(circle_table())
        yard.post(0, 3, 2)
        for move in (("in", 0, 0), ("on", 0, 1), ("back", 0), ("in", 0, 0), ("on", 1, 3), ("back", 1), ("on", 0, 1)):
            yard.do(move)
        self.assertEqual(waits(yard), [(1, (3,)), (3, ())])

    def test_many_yards_behind_each_move(self):
        chance = random.Random(3)
        kinds = {}
        for yard in some_yards(4, letters=6):
            for again in do_some(chance, yard, 60):
                lanes = [lane for lane, told in enumerate(stood(yard)[0]) if told[3]]
                self.assertEqual(waits(yard), [(lane, tuple(wanted_by_told(yard, lane) or ())) for lane in lanes])
                for lane, wanted in waits(yard):
                    kinds[len(wanted)] = kinds.get(len(wanted), 0) + 1
        self.assertTrue({0, 1, 2, 3} <= set(kinds))

    def test_in_a_still_yard_each_lane_waited_for_has_pieces(self):
        chance = random.Random(5)
        found = 0
        for again in range(3):
            for yard in some_yards(6 + again, letters=10, length=5, room=2):
                run(yard, lambda moves: chance.randrange(99), 10000)
                if still(yard):
                    found += 1
                    lanes = [lane for lane, wanted in waits(yard)]
                    for lane, wanted in waits(yard):
                        self.assertTrue(set(wanted) <= set(lanes))
        self.assertGreater(found, 100)

    def test_what_is_told_is_the_askers_own_and_the_yard_stays(self):
        yard = ring_yard(2, 1, 1)
        yard.do(("in", 0, 0))
        before = all_told(yard)
        waits(yard).clear()
        still(yard)
        self.assertEqual(waits(yard), [(0, (1,))])
        self.assertEqual(all_told(yard), before)


def stands_up(table, ring):
    """Whether [35] asks for a stand of the ring, by its words."""
    moves = moves_of(table)
    for lane, goal in ring:
        ways = [other for one, met_goal, other in moves if (one, met_goal) == (lane, goal)]
        if lane not in table.ways(table.land.lanes[lane][0], goal, None) or len(ways) != 1:
            return False
    return True


class TestStandOf(unittest.TestCase):
    def assert_stand(self, table, rooms, ring):
        """The stand of a ring, done by hand in a new yard."""
        told = stand_of(table, rooms, ring)
        self.assertEqual([type(told), type(told[0]), type(told[1])], [tuple, list, list])
        letters, moves = told
        self.assertEqual(letters, [(table.land.lanes[lane][0], goal, rooms[lane], 0) for lane, goal in ring])
        yard = Yard(table, rooms)
        for letter in letters:
            self.assertIs(type(letter), tuple)
            yard.post(*letter)
        for move in moves:
            self.assertIn(move, yard.moves())
            yard.do(move)
        self.assertEqual(yard.moves(), [])
        self.assertIs(still(yard), True)
        self.assertEqual(stood(yard)[3], [[] for place in range(table.land.places)])
        self.assertEqual(stand_of(table, rooms, ring), told)

    def test_the_ring_of_three(self):
        ring = ((0, 2), (1, 0), (2, 1))
        for rooms in ([1, 1, 1], [2, 2, 2], [1, 5, 2], [60, 60, 60], [1, 60, 1]):
            self.assert_stand(ring_table(), rooms, ring)
            self.assert_stand(ring_table(), rooms, ring[1:] + ring[:1])

    def test_of_a_nearer(self):
        table = Nearer(Land(4, [(0, 1), (1, 2), (2, 3), (3, 0)]))
        self.assert_stand(table, [1, 2, 3, 4], look(table)[1])
        self.assert_stand(table, [1, 1, 1, 1], ((0, 3), (1, 3), (2, 0), (3, 2)))

    def test_lanes_outside_the_ring_do_not_count(self):
        rows = [(place, (place + 2) % 3, None, [place]) for place in range(3)]
        rows += [((place + 1) % 3, (place + 2) % 3, place, [(place + 1) % 3]) for place in range(3)]
        table = Told(Land(4, CIRCLE), rows + [(2, 3, None, [3])])
        self.assert_stand(table, [2, 1, 3, 1, 1], ((0, 2), (1, 0), (2, 1)))

    def test_none_where_a_lane_is_no_first_lane(self):
        self.assertIsNone(stand_of(circle_table(), [1] * 5, look(circle_table())[1]))
        self.assertIsNone(stand_of(endless_table(), [1] * 5, ((0, 3), (1, 3), (2, 3))))

    def test_none_where_it_is_a_first_lane_of_another_goal_alone(self):
        rows = [(place, (place + 2) % 3, None, [place]) for place in range(3)]
        rows += [((place + 1) % 3, (place + 2) % 3, place, [(place + 1) % 3]) for place in range(3)]
        land = Land(4, CIRCLE[:3] + [(3, 0)])
        rows = [row for row in rows if row[:3] != (0, 2, None)] + [(3, 2, None, [3]), (0, 2, 3, [0]), (0, 1, None, [0])]
        table = Told(land, rows)
        self.assertIsNone(stand_of(table, [1] * 4, ((0, 2), (1, 0), (2, 1))))

    def test_none_where_a_pair_has_two_ways(self):
        land = Land(3, CIRCLE[:3] + [(1, 2)])
        rows = []
        for place in range(3):
            rows.append((place, (place + 2) % 3, None, [place]))
            rows.append(((place + 1) % 3, (place + 2) % 3, place, [(place + 1) % 3]))
        ring = ((0, 2), (1, 0), (2, 1))
        self.assert_stand(Told(land, rows), [1] * 4, ring)
        rows[1] = (1, 2, 0, [1, 3])
        self.assertIsNone(stand_of(Told(land, rows), [1] * 4, ring))

    def test_rings_of_all_tables(self):
        chance = random.Random(7)
        up, none = 0, 0
        circles = [Nearer(Land(many, [(place, (place + 1) % many) for place in range(many)])) for many in range(3, 13)]
        for table in all_tables() + circles:
            word, ring = look(table)
            if word == "ring":
                rooms = [chance.randint(1, 5) for lane in table.land.lanes]
                if stands_up(table, ring):
                    up += 1
                    self.assert_stand(table, rooms, ring)
                else:
                    none += 1
                    self.assertIsNone(stand_of(table, rooms, ring))
        self.assertGreater(min(up, none), 5)

    def test_what_is_handed_in_stays(self):
        rooms, ring = [2, 1, 3], look(ring_table())[1]
        kept = copy.deepcopy((rooms, ring))
        letters, moves = stand_of(ring_table(), rooms, ring)
        letters.clear()
        moves.clear()
        self.assertEqual((rooms, ring), kept)
        self.assert_stand(ring_table(), rooms, ring)
        keeper = Keeper(ring_table())
        stand_of(keeper, rooms, ring)
        self.assertEqual(keeper.kept, all_ways(ring_table()))

    def test_a_table_that_tells_alike(self):
        for table in (ring_table(), Nearer(Land(3, CIRCLE[:3]))):
            ring = look(table)[1]
            self.assertEqual(stand_of(retold(table), [1, 2, 3], ring), stand_of(table, [1, 2, 3], ring))


def all_stands(yard, most):
    """The stands that a yard can come to, by twins, in the order of [36], with the moves to each; at most so many."""
    found = [([], yard.twin())]
    seen = {repr(stood(yard))}
    for moves, here in found:
        for move in here.moves():
            other = here.twin()
            other.do(move)
            if repr(stood(other)) not in seen:
                if len(found) > most:
                    return found
                seen.add(repr(stood(other)))
                found.append((moves + [move], other))
    return found


def search_by_twins(found, most):
    """What a search is to tell, by all stands, or by one more than most of them."""
    for moves, here in found[:most]:
        if not here.moves() and not here.ended():
            return ("still", moves)
    return ("ends",) if len(found) <= most else ("more",)


class TestSearch(unittest.TestCase):
    def test_by_hand(self):
        yard = ring_yard(1, 1, 1)
        self.assertEqual(search(yard, 1000), ("still", [("in", 0, 0), ("in", 1, 1), ("in", 2, 2)]))
        self.assertEqual(search(ring_yard(1), 1000), ("ends",))
        self.assertEqual(search(ring_yard(1, 1), 1000), ("ends",))
        self.assertEqual(search(Yard(ring_table()), 1), ("ends",))
        self.assertEqual(search(Yard(ring_table()), 10000), ("ends",))

    def test_a_row_of_stands(self):
        # One piece on one lane: at its start, in the lane, lying, and the right brought: four stands.
        yard = Yard(Told(Land(2, [(0, 1)]), [(0, 1, None, [0])]))
        yard.post(0, 1, 1)
        self.assertEqual([search(yard, most)[0] for most in (1, 2, 3, 4, 5)], ["more", "more", "more", "ends", "ends"])

    def test_a_yard_that_is_still(self):
        yard = Yard(lost_table())
        yard.post(0, 3, 1)
        yard.do(("in", 0, 0))
        self.assertEqual(search(yard, 1), ("still", []))
        self.assertEqual(search(yard, 10000), ("still", []))

    def test_the_still_one_just_among_the_first_and_just_not(self):
        yard = Yard(lost_table())
        yard.post(0, 3, 1)
        self.assertEqual(search(yard, 1), ("more",))
        self.assertEqual(search(yard, 2), ("still", [("in", 0, 0)]))

    def test_the_first_of_several_still_ones(self):
        yard = Yard(lost_table(), [1, 1, 2, 1, 1])
        yard.post(2, 1, 1)
        yard.post(0, 3, 1)
        self.assertEqual(search(yard, 100), ("still", [("in", 0, 2), ("in", 1, 0)]))
        land = Land(3, [(0, 1), (0, 1)])
        yard = Yard(Told(land, [(0, 2, None, [0, 1])]))
        yard.post(0, 2, 1)
        self.assertEqual(search(yard, 100), ("still", [("in", 0, 0)]))

    def test_fewer_moves_come_first(self):
        # By lane 0 the head is lost behind two moves, by lane 1 behind one.
        land = Land(4, [(0, 1), (0, 2), (1, 2)])
        yard = Yard(Told(land, [(0, 3, None, [0, 1]), (1, 3, 0, [2])]))
        yard.post(0, 3, 1)
        self.assertEqual(search(yard, 100), ("still", [("in", 0, 1)]))

    def test_against_a_count_of_its_own(self):
        chance = random.Random(9)
        told = {}
        tables = told_tables()[:160] + nearer_tables()[:20] + ruled_tables()[::3]
        for table in tables:
            yard = some_yard(chance, table, 2, 2, 2)
            for again in do_some(chance, yard, chance.randrange(4)):
                pass
            before = all_told(yard)
            found = all_stands(yard, 60)
            for most in {1, 2, len(found) - 1, len(found), len(found) + 1, 60} - {0, -1}:
                if most <= 60:
                    answer = search(yard, most)
                    self.assertEqual(answer, search_by_twins(found, most))
                    self.assertIs(type(answer), tuple)
                    told[answer[0]] = told.get(answer[0], 0) + 1
            self.assertEqual(all_told(yard), before)
        self.assertGreater(min(told[word] for word in ("still", "ends", "more")), 20)

    def test_just_as_many_as_there_are_one_less_and_one_more(self):
        ends = 0
        for yard in (ring_yard(2, 1), ring_yard(3), ring_yard(1, 2)):
            found = all_stands(yard, 2000)
            self.assertLess(len(found), 2000)
            for most, wanted in ((len(found) - 1, ("more",)), (len(found), ("ends",)), (len(found) + 1, ("ends",))):
                self.assertEqual(search_by_twins(found, most), wanted)
                self.assertEqual(search(yard, most), wanted)
                ends += 1
        self.assertEqual(ends, 9)

    def test_where_the_still_one_stands_in_the_row(self):
        yard = ring_yard(1, 2, 1)
        found = all_stands(yard, 2000)
        first = [number for number, (moves, here) in enumerate(found) if still(here)][0]
        self.assertGreater(first, 5)
        self.assertEqual(search(yard, first), ("more",))
        self.assertEqual(search(yard, first + 1), ("still", found[first][0]))
        self.assertEqual(search(yard, first + 2), ("still", found[first][0]))

    def test_moves_that_lead_there(self):
        yard = ring_yard(2, 3, 2)
        word, moves = search(yard, 10000)
        self.assertEqual(word, "still")
        for move in moves:
            yard.do(move)
        self.assertTrue(still(yard))

    def test_the_history_does_not_count(self):
        # A letter goes and another one is posted: the stands are those of a yard that stands alike.
        yard = ring_yard(1, 1)
        one, other = yard.twin(), yard.twin()
        one.do(("in", 0, 0))
        one.do(("in", 1, 1))
        other.do(("in", 1, 1))
        other.do(("in", 0, 0))
        self.assertNotEqual(one.history(), other.history())
        self.assertEqual(len(all_stands(one, 999)), len(all_stands(other, 999)))
        for most in range(1, 40):
            self.assertEqual(search(one, most), search(other, most))

    def test_the_yard_stays_and_what_is_told_is_the_askers_own(self):
        yard = ring_yard(2, 2, 2)
        run(yard, lambda moves: 1, 2)
        before = all_told(yard)
        first = search(yard, 500)
        first[1].clear()
        self.assertEqual(all_told(yard), before)
        self.assertNotEqual(search(yard, 500), first)
        self.assertEqual(all_told(yard), before)

    def test_ten_thousand_stands(self):
        yard = Yard(RowFirst(3, 2), [2] * 14)
        for place in range(6):
            yard.post(place, 5 - place, 3)
        self.assertEqual(search(yard, 10000), ("more",))

    def test_the_table_stays(self):
        keeper = Keeper(circle_table())
        yard = Yard(keeper)
        yard.post(0, 3, 2)
        self.assertEqual(search(yard, 10000)[0], "still")
        self.assertEqual(keeper.kept, all_ways(circle_table()))


class TestWithAPaper(unittest.TestCase):
    def test_neither_a_run_nor_a_search_comes_to_a_still_yard(self):
        chance = random.Random(11)
        papers = 0
        for yard in some_yards(12, letters=3, length=3, room=2):
            if look(yard.table)[0] == "paper":
                papers += 1
                self.assertIn(search(yard, 25), (("ends",), ("more",)))
                for again in do_some(chance, yard, 10000):
                    self.assertFalse(still(yard))
                self.assertTrue(yard.ended())
        self.assertGreater(papers, 60)

    def test_all_stands_of_small_yards(self):
        for table in (RowFirst(2, 2), Loop(3), Tree([0, 0]), Loop(2), RowFirst(3, 1)):
            yard = some_yard(random.Random(13), table, 3, 2, 1)
            self.assertEqual(search(yard, 10000), ("ends",))


if __name__ == "__main__":
    unittest.main()
