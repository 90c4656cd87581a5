"""Promises [25] to [31], and [2] and [3] as far as they go."""

import itertools
import random
import unittest

from samples import (CIRCLE, Keeper, all_told, all_ways, circle_table, do_some, endless_table, lost_table,
                     moves_by_told, ring_table, some_yard, some_yards, stood)
from wormyard.errors import Full, NoLength, NoMove, NoPlace, NoRooms, NoWay, NoWord
from wormyard.lands import Land
from wormyard.makers import Loop, Nearer, RowFirst, Tree
from wormyard.tables import Table, Told
from wormyard.yards import Yard

GREAT = 10 ** 60


def line_table():
    """Letters from place 0 to places 1 and 2 along lanes 0 and 1; lane 2 goes beside lane 0."""
    return Told(Land(3, [(0, 1), (1, 2), (0, 1)]), [(0, 1, None, [0, 2]), (0, 2, None, [0, 2]), (1, 2, 0, [1]),
                                                     (1, 2, 2, [1])])


def line_yard(rooms, *letters):
    yard = Yard(line_table(), rooms)
    for letter in letters:
        yard.post(*letter)
    return yard


class YardCase(unittest.TestCase):
    def assert_refused(self, yard, error, deed, *values):
        """The deed is refused with the error, which is told, and changes nothing."""
        before = all_told(yard)
        with self.assertRaises(error) as caught:
            getattr(yard, deed)(*values)
        self.assertIs(type(caught.exception), error)
        self.assertEqual(all_told(yard), before)
        return caught.exception


class TestRooms(YardCase):
    def test_left_out(self):
        for yard in (Yard(line_table()), Yard(line_table(), None), Yard(line_table(), [1, 1, 1])):
            self.assertEqual([yard.lane_told(lane) for lane in range(3)], [(1, 0, None, [])] * 3)

    def test_by_lane(self):
        yard = Yard(line_table(), [1, 60, 7])
        self.assertEqual([yard.lane_told(lane)[0] for lane in range(3)], [1, 60, 7])

    def test_too_few_and_too_many(self):
        for rooms in ([], [1], [1, 1], [1, 1, 1, 1], [1] * 40):
            with self.assertRaises(NoRooms):
                Yard(line_table(), rooms)
        with self.assertRaises(NoRooms):
            Yard(Table(Land(2, [])), [1])

    def test_no_rooms(self):
        for lane in range(3):
            for bad in (0, 61, 62, -1, -60, GREAT, -GREAT, True, False):
                rooms = [1, 2, 3]
                rooms[lane] = bad
                with self.subTest(rooms=rooms), self.assertRaises(NoRooms):
                    Yard(line_table(), rooms)

    def test_a_land_without_lanes(self):
        for yard in (Yard(Table(Land(2, []))), Yard(Table(Land(2, [])), [])):
            self.assertEqual(all_told(yard), (([], [], [], [[], []], 0, True), [], []))

    def test_the_list_stays_and_may_be_changed_behind(self):
        rooms = [2, 3, 4]
        yard = Yard(line_table(), rooms)
        self.assertEqual(rooms, [2, 3, 4])
        rooms[0] = 9
        rooms.append(1)
        self.assertEqual([yard.lane_told(lane)[0] for lane in range(3)], [2, 3, 4])
        self.assertEqual([yard.twin().lane_told(lane)[0] for lane in range(3)], [2, 3, 4])

    def test_the_table_is_its_value(self):
        table = line_table()
        self.assertIs(Yard(table).table, table)
        self.assertIs(Yard(table).twin().table, table)


class TestNew(YardCase):
    def test_at_first(self):
        yard = Yard(line_table(), [1, 2, 3])
        self.assertEqual(yard.posted(), 0)
        self.assertEqual(yard.moves(), [])
        self.assertEqual(yard.history(), [])
        self.assertIs(yard.ended(), True)
        self.assertEqual([yard.lying(place) for place in range(3)], [[], [], []])


class TestPost(YardCase):
    def test_numbers_from_nought_on(self):
        yard = Yard(line_table())
        self.assertEqual([yard.post(0, 1, 2), yard.post(0, 2, 60, -5), yard.post(0, 1, 1, 7)], [0, 1, 2])
        self.assertEqual(yard.posted(), 3)
        letters = [yard.letter_told(number) for number in range(3)]
        self.assertEqual(letters, [(0, 1, 2, 0), (0, 2, 60, -5), (0, 1, 1, 7)])
        self.assertEqual([yard.way_told(number) for number in range(3)], [[], [], []])
        self.assertEqual(yard.history(), [("post", 0, 1, 2, 0), ("post", 0, 2, 60, -5), ("post", 0, 1, 1, 7)])
        self.assertIs(type(yard.letter_told(0)), tuple)

    def test_no_place(self):
        for bad in (-1, 3, 12, GREAT, -GREAT, True, False, None):
            self.assert_refused(Yard(line_table()), NoPlace, "post", bad, 2, 1)
            self.assert_refused(Yard(line_table()), NoPlace, "post", 0, bad, 1)
            self.assert_refused(Yard(line_table()), NoPlace, "post", bad, bad, 1)

    def test_no_length(self):
        for bad in (0, 61, -1, GREAT, -GREAT, True, False):
            self.assert_refused(Yard(line_table()), NoLength, "post", 0, 2, bad)
        for good in (1, 60):
            self.assertEqual(Yard(line_table()).post(0, 2, good), 0)

    def test_no_word(self):
        for bad in (GREAT, -GREAT, GREAT + 1, 10 ** 5000, -(10 ** 5000), True, False, None, "7"):
            self.assert_refused(Yard(line_table()), NoWord, "post", 0, 2, 1, bad)
        for good in (0, 1, -1, GREAT - 1, 1 - GREAT):
            yard = Yard(line_table())
            self.assertEqual(yard.post(0, 2, 1, good), 0)
            self.assertEqual(yard.letter_told(0), (0, 2, 1, good))

    def test_no_way(self):
        for start, goal in ((1, 1), (0, 0), (1, 2), (2, 0), (1, 0)):
            error = self.assert_refused(Yard(line_table()), NoWay, "post", start, goal, 1)
            self.assertEqual((error.start, error.goal), (start, goal))

    def test_no_way_where_start_and_goal_are_one_place_whatever_the_table_says(self):
        class Round(Table):
            def ways(self, place, goal, came):
                return self.land.out_of(place)

        self.assert_refused(Yard(Round(Land(4, CIRCLE))), NoWay, "post", 2, 2, 1)

    def test_sixty_letters_and_the_next_one(self):
        yard = Yard(line_table())
        for number in range(60):
            self.assertEqual(yard.post(0, 1 + number % 2, 1 + number), number)
        self.assert_refused(yard, Full, "post", 0, 2, 1)
        self.assert_refused(yard, Full, "post", 0, 1, 60, 5)
        while yard.moves():
            yard.do(yard.moves()[-1])
        self.assertTrue(yard.ended())
        self.assert_refused(yard, Full, "post", 0, 2, 1)

    def test_two_reasons_at_once(self):
        full = line_yard(None, *[(0, 2, 1)] * 60)
        reasons = [(NoPlace, 0, 3), (NoLength, 2, 61), (NoWord, 3, GREAT), (NoWay, 0, 1)]
        for yard in (Yard(line_table()), full):
            for many in range(1, 5):
                for some in itertools.combinations(reasons, many):
                    values = [0, 2, 1, 0]
                    # From the last one on, as NoPlace and NoWay both speak of the start.
                    for error, at, bad in reversed(some):
                        values[at] = bad
                    with self.subTest(values=values):
                        self.assert_refused(yard, some[0][0], "post", *values)

    def test_at_any_time(self):
        yard = line_yard([2, 2, 2], (0, 2, 2))
        yard.do(("in", 0, 0))
        self.assertEqual(yard.post(0, 1, 1), 1)
        self.assertIn(("in", 1, 2), yard.moves())
        while yard.moves():
            yard.do(yard.moves()[0])
        self.assertTrue(yard.ended())
        self.assertEqual(yard.post(0, 1, 1), 2)
        self.assertFalse(yard.ended())


class TestMovesByHand(YardCase):
    def test_in_of_a_head(self):
        yard = line_yard([1, 1, 1], (0, 2, 2), (0, 1, 1))
        self.assertEqual(yard.moves(), [("in", 0, 0), ("in", 0, 2), ("in", 1, 0), ("in", 1, 2)])

    def test_in_of_the_other_pieces(self):
        yard = line_yard([2, 1, 2], (0, 2, 3), (0, 1, 1))
        yard.do(("in", 0, 2))
        self.assertEqual(yard.moves(), [("in", 0, 2), ("in", 1, 0), ("on", 2, 1)])
        yard.do(("in", 0, 2))
        self.assertEqual(yard.moves(), [("in", 1, 0), ("on", 2, 1)])
        self.assertEqual(yard.lane_told(2), (0, 0, 0, [(0, 0), (0, 1)]))

    def test_on_lie_and_back(self):
        yard = line_yard([2, 1, 2], (0, 2, 2))
        for move in (("in", 0, 0), ("on", 0, 1), ("in", 0, 0)):
            yard.do(move)
        self.assertEqual(yard.way_told(0), [0, 1])
        self.assertEqual(yard.moves(), [("lie", 1), ("back", 0)])
        yard.do(("lie", 1))
        self.assertEqual(yard.lying(2), [(0, 0)])
        self.assertEqual(yard.moves(), [("back", 0), ("back", 1)])
        yard.do(("back", 1))
        self.assertEqual(yard.moves(), [("on", 0, 1), ("back", 0)])
        yard.do(("on", 0, 1))
        yard.do(("lie", 1))
        self.assertEqual(yard.lying(2), [(0, 0), (0, 1)])
        self.assertTrue(yard.ended())
        self.assertEqual(yard.moves(), [("back", 0), ("back", 1)])

    def test_back_comes_once_for_each_lane(self):
        yard = line_yard([3, 1, 1], (0, 1, 2))
        for move in (("in", 0, 0), ("in", 0, 0), ("lie", 0), ("lie", 0)):
            yard.do(move)
        self.assertEqual(yard.lane_told(0), (1, 2, None, []))
        self.assertEqual(yard.moves(), [("back", 0)])
        yard.do(("back", 0))
        self.assertEqual(yard.moves(), [("back", 0)])
        yard.do(("back", 0))
        self.assertEqual(yard.moves(), [])
        self.assertEqual(yard.lane_told(0), (3, 0, None, []))

    def test_the_other_lane_is_held_by_another_letter(self):
        yard = line_yard([2, 3, 2], (0, 2, 2), (0, 2, 2))
        for move in (("in", 0, 0), ("on", 0, 1), ("in", 1, 2)):
            yard.do(move)
        self.assertEqual(yard.lane_told(1), (2, 0, 0, [(0, 0)]))
        self.assertNotIn(("on", 2, 1), yard.moves())
        yard.do(("in", 0, 0))
        yard.do(("on", 0, 1))
        self.assertIn(("on", 2, 1), yard.moves())

    def test_a_head_never_goes_into_a_lane_of_its_way(self):
        # The head of a letter goes round by lanes 1, 2, 0; lane 1 is of its way, so there it stays.
        yard = Yard(endless_table())
        yard.post(1, 3, 1)
        for move in (("in", 0, 1), ("on", 1, 2), ("on", 2, 0), ("back", 1), ("back", 2)):
            yard.do(move)
        self.assertEqual(yard.lane_told(1), (1, 0, None, []))
        self.assertEqual(yard.table.ways(1, 3, 0), [1])
        self.assertEqual(yard.moves(), [])
        self.assert_refused(yard, NoMove, "do", ("on", 0, 1))
        self.assertFalse(yard.ended())

    def test_a_head_may_choose_among_its_ways(self):
        yard = Yard(circle_table())
        yard.post(0, 3, 1)
        yard.do(("in", 0, 0))
        yard.do(("on", 0, 1))
        self.assertEqual(yard.moves(), [("on", 1, 2), ("on", 1, 3), ("back", 0)])

    def test_a_lost_head(self):
        yard = Yard(lost_table())
        yard.post(0, 3, 1)
        yard.do(("in", 0, 0))
        self.assertEqual(yard.moves(), [])

    def test_bodies_take_the_lanes_of_the_way(self):
        # Both ways lead on; the bodies have the one that the head took.
        land = Land(3, [(0, 1), (1, 2), (1, 2)])
        yard = Yard(Told(land, [(0, 2, None, [0]), (1, 2, 0, [1, 2])]), [2, 2, 2])
        yard.post(0, 2, 2)
        yard.do(("in", 0, 0))
        self.assertEqual([move for move in yard.moves() if move[0] == "on"], [("on", 0, 1), ("on", 0, 2)])
        yard.do(("on", 0, 2))
        yard.do(("in", 0, 0))
        self.assertEqual([move for move in yard.moves() if move[0] == "on"], [("on", 0, 2)])
        self.assert_refused(yard, NoMove, "do", ("on", 0, 1))

    def test_in_comes_by_letter_then_by_lane(self):
        yard = line_yard([1, 1, 1], *[(0, 1, 1)] * 12)
        self.assertEqual(yard.moves(), [("in", number, lane) for number in range(12) for lane in (0, 2)])

    def test_pieces_lie_behind_all_that_lie_there(self):
        yard = line_yard([2, 2, 2], (0, 1, 1), (0, 1, 1), (0, 2, 1))
        for move in (("in", 1, 2), ("in", 2, 2), ("in", 0, 0), ("lie", 2), ("on", 2, 1), ("lie", 0), ("lie", 1)):
            yard.do(move)
        self.assertEqual([yard.lying(place) for place in range(3)], [[], [(1, 0), (0, 0)], [(2, 0)]])


class TestMovesOfManyYards(YardCase):
    def test_against_a_count_of_its_own_behind_each_move(self):
        chance = random.Random(1)
        words = {}
        for yard in some_yards(2):
            self.assertEqual(yard.moves(), moves_by_told(yard))
            for again in do_some(chance, yard, 60):
                moves = yard.moves()
                self.assertEqual(moves, moves_by_told(yard))
                for move in moves:
                    self.assertIs(type(move), tuple)
                    words[move[0]] = words.get(move[0], 0) + 1
        self.assertGreater(min(words[word] for word in ("in", "on", "lie", "back")), 1000)

    def test_long_letters_and_rooms_of_one(self):
        chance = random.Random(4)
        for yard in some_yards(5, letters=9, length=12, room=1)[::3]:
            for again in do_some(chance, yard, 60):
                self.assertEqual(yard.moves(), moves_by_told(yard))

    def test_letters_posted_between_the_moves(self):
        chance = random.Random(6)
        for yard in some_yards(7, letters=1)[::3]:
            if yard.posted():
                for again in do_some(chance, yard, 40):
                    if chance.randrange(5) == 0:
                        yard.post(*yard.letter_told(0))
                    self.assertEqual(yard.moves(), moves_by_told(yard))

    def test_each_move_told_may_be_made_and_no_other_one(self):
        chance = random.Random(8)
        for yard in some_yards(9, letters=3, length=3, room=2)[::8]:
            lanes = len(yard.table.land.lanes)
            for again in do_some(chance, yard, 12):
                moves = yard.moves()
                for word in ("in", "on", "lie", "back"):
                    for first in range(-1, max(lanes, yard.posted()) + 1):
                        for rest in [()] + [(second,) for second in range(-1, lanes + 1)]:
                            move = (word, first) + rest
                            if move in moves:
                                self.assertIsNone(yard.twin().do(move))
                            else:
                                with self.assertRaises(NoMove):
                                    yard.do(move)
                self.assertEqual(yard.moves(), moves)

    def test_every_other_tuple_is_refused(self):
        yard = line_yard([2, 2, 2], (0, 2, 3), (0, 1, 2), (0, 2, 1))
        for move in (("in", 0, 0), ("in", 0, 0), ("on", 0, 1), ("in", 1, 2), ("lie", 2)):
            yard.do(move)
        self.assertEqual(yard.moves(), [("in", 1, 2), ("on", 0, 1), ("lie", 1), ("back", 0), ("back", 2)])
        wrong = [(), ("in",), ("on",), ("lie",), ("back",), ("in", 1), ("in", 1, 2, 0), ("in", 1, 2, "in"),
                 ("on", 0), ("on", 0, 1, 1), ("lie", 1, 0), ("lie", 1, 1), ("back", 0, 0), ("back", 0, "back"),
                 ("IN", 1, 2), ("in ", 1, 2), ("", 1, 2), ("lies", 1), ("post", 0, 2, 1, 0), ("post", 0, 2, 1),
                 (1, "in", 2), (0, 1), (0,), (1, 2, 3), ("in", "1", "2"), ("in", 1, "2"), ("lie", "1"), ("back", "0"),
                 ("in", "in", "in"), ("in", 1, 0), ("in", 1, 1), ("in", 0, 0), ("in", 2, 0), ("in", 3, 2),
                 ("on", 0, 0), ("on", 0, 2), ("on", 1, 0), ("on", 2, 1), ("on", 1, 1), ("on", "0", 1), ("lie", 0),
                 ("lie", 2), ("lie", 3), ("back", 1), ("back", 3), ("lie", -2), ("back", -1), ("back", -3),
                 ("in", -2, 2), ("in", 1, -1), ("on", -3, 1), ("on", 0, -2), ("lie", GREAT), ("back", -GREAT),
                 ("in", GREAT, 2), ("in", 1, GREAT), ("on", GREAT, GREAT), ("lie", 1, ""), ("back",) * 2, ("x",) * 60,
                 ("back", 0) * 30, ("in", True, 2), ("on", False, 1), ("on", 0, True), ("lie", True), ("back", False)]
        for move in wrong:
            with self.subTest(move=move):
                self.assert_refused(yard, NoMove, "do", move)

    def test_in_a_yard_without_letters_and_in_one_without_lanes(self):
        for yard in (Yard(line_table()), Yard(Table(Land(3, [])))):
            for move in (("in", 0, 0), ("in", -1, 0), ("on", 0, 1), ("lie", 0), ("lie", -1), ("back", 0), ("back", -1)):
                self.assert_refused(yard, NoMove, "do", move)


def told_after(yard, move):
    """What a yard is to tell behind a move, by [22], [23] and [28], from what it tells ahead of it."""
    lanes, letters, ways, places, posted, ended = stood(yard)
    lanes = [list(lane[:3]) + [list(lane[3])] for lane in lanes]
    if move[0] == "back":
        lanes[move[1]][0] += 1
        lanes[move[1]][1] -= 1
    if move[0] in ("on", "lie"):
        piece = lanes[move[1]][3].pop(0)
        lanes[move[1]][1] += 1
    if move[0] == "in":
        gone = [piece for lane in lanes for piece in lane[3]] + [piece for lying in places for piece in lying]
        piece = (move[1], len([number for number, count in gone if number == move[1]]))
    if move[0] == "lie":
        places[yard.table.land.lanes[move[1]][1]].append(piece)
    if move[0] in ("in", "on"):
        number, count = piece
        lanes[move[2]][0] -= 1
        lanes[move[2]][2] = None if count == letters[number][2] - 1 else number
        lanes[move[2]][3].append(piece)
        if count == 0:
            ways[number].append(move[2])
    lying = sum(len(pieces) for pieces in places)
    return [tuple(lane) for lane in lanes], letters, ways, places, posted, lying == sum(told[2] for told in letters)


class TestDo(YardCase):
    def test_what_each_move_changes_and_that_it_changes_nothing_else(self):
        chance = random.Random(10)
        for yard in some_yards(11):
            for step in range(40):
                moves = yard.moves()
                if not moves:
                    break
                move = chance.choice(moves)
                history = yard.history()
                wanted = told_after(yard, move)
                self.assertIsNone(yard.do(move))
                self.assertEqual(stood(yard), wanted)
                self.assertEqual(yard.history(), history + [move])

    def assert_stretches(self, yard, held):
        """[31], [24] and [27] by what a yard tells; held by lane: the letter whose head went in and its tail not."""
        for lane in range(len(yard.table.land.lanes)):
            rights, back, holder, pieces = yard.lane_told(lane)
            self.assertEqual(holder, held.get(lane))
            for ahead, behind in zip(pieces, pieces[1:]):
                if behind[1] == 0:
                    self.assertEqual(ahead[1], yard.letter_told(ahead[0])[2] - 1)
                else:
                    self.assertEqual(behind, (ahead[0], ahead[1] + 1))
            if pieces and pieces[-1][1] != yard.letter_told(pieces[-1][0])[2] - 1:
                self.assertEqual(holder, pieces[-1][0])
        for number in range(yard.posted()):
            way = yard.way_told(number)
            self.assertEqual(len(set(way)), len(way))

    def test_stretches_and_holders_behind_each_move(self):
        chance = random.Random(12)
        for yard in some_yards(13, letters=5, length=5, room=4):
            rooms = [yard.lane_told(lane)[0] for lane in range(len(yard.table.land.lanes))]
            held, inside = {}, {}
            for again in do_some(chance, yard, 60):
                move = yard.history()[-1]
                if move[0] in ("in", "on"):
                    number, count = yard.lane_told(move[2])[3][-1]
                    self.assertEqual(count, inside.get((number, move[2]), 0))
                    inside[(number, move[2])] = count + 1
                    if count == 0:
                        held[move[2]] = number
                    if count + 1 == yard.letter_told(number)[2]:
                        held.pop(move[2])
                self.assert_stretches(yard, held)
                self.assertEqual([told[0] + told[1] + len(told[3]) for told in stood(yard)[0]], rooms)

    def test_pieces_take_the_lanes_of_their_way_in_order(self):
        chance = random.Random(14)
        for yard in some_yards(15)[::2]:
            taken = {}
            for again in do_some(chance, yard, 80):
                move = yard.history()[-1]
                if move[0] in ("in", "on"):
                    piece = yard.lane_told(move[2])[3][-1]
                    taken.setdefault(piece, []).append(move[2])
            for (number, count), lanes in taken.items():
                self.assertEqual(lanes, yard.way_told(number)[:len(lanes)])
                if count == 0:
                    self.assertEqual(lanes, yard.way_told(number))


class TestEndedAndHistory(YardCase):
    def test_ended(self):
        yard = line_yard([1, 1, 1], (0, 1, 2))
        self.assertIs(yard.ended(), False)
        for move in (("in", 0, 0), ("lie", 0), ("back", 0), ("in", 0, 0)):
            yard.do(move)
            self.assertIs(yard.ended(), False)
        yard.do(("lie", 0))
        self.assertIs(yard.ended(), True)
        yard.post(0, 2, 1)
        self.assertIs(yard.ended(), False)

    def test_history_is_all_that_was_done(self):
        yard = line_yard([1, 1, 1], (0, 1, 1, 5))
        yard.do(("in", 0, 2))
        yard.post(0, 2, 3, -4)
        yard.do(("lie", 2))
        self.assertEqual(yard.history(), [("post", 0, 1, 1, 5), ("in", 0, 2), ("post", 0, 2, 3, -4), ("lie", 2)])

    def test_what_is_refused_is_not_in_it(self):
        yard = line_yard([1, 1, 1], (0, 1, 1))
        self.assert_refused(yard, NoMove, "do", ("lie", 0))
        self.assert_refused(yard, NoWay, "post", 1, 0, 1)
        self.assertEqual(yard.history(), [("post", 0, 1, 1, 0)])

    def test_a_history_done_anew_stands_alike(self):
        chance = random.Random(16)
        for yard in some_yards(17)[::4]:
            for again in do_some(chance, yard, 50):
                pass
            anew = Yard(yard.table, [sum(told[:2]) + len(told[3]) for told in stood(yard)[0]])
            for deed in yard.history():
                if deed[0] == "post":
                    anew.post(*deed[1:])
                else:
                    anew.do(deed)
            self.assertEqual(all_told(anew), all_told(yard))


class TestTwins(YardCase):
    def test_a_twin_stands_alike(self):
        chance = random.Random(18)
        for yard in some_yards(19)[::2]:
            for again in do_some(chance, yard, 25):
                pass
            before = all_told(yard)
            twin = yard.twin()
            self.assertIs(type(twin), Yard)
            self.assertEqual(all_told(twin), before)
            self.assertEqual(all_told(yard), before)

    def test_what_is_done_to_one_changes_nothing_of_the_other(self):
        chance = random.Random(20)
        for yard in some_yards(21)[::2]:
            for again in do_some(chance, yard, chance.randrange(15)):
                pass
            before = all_told(yard)
            twin = yard.twin()
            third = twin.twin()
            for again in do_some(chance, twin, 20):
                self.assertEqual(all_told(yard), before)
            if yard.posted():
                twin.post(*yard.letter_told(0))
            self.assertEqual(all_told(yard), before)
            self.assertEqual(all_told(third), before)
            later = all_told(twin)
            for again in do_some(chance, yard, 20):
                self.assertEqual(all_told(twin), later)
            self.assertEqual(all_told(third), before)

    def test_they_go_on_alike(self):
        chance = random.Random(22)
        for yard in some_yards(23)[::4]:
            for again in do_some(chance, yard, 10):
                pass
            twin = yard.twin()
            for again in do_some(chance, yard, 30):
                twin.do(yard.history()[-1])
                self.assertEqual(all_told(twin), all_told(yard))

    def test_a_move_refused_to_one_changes_nothing(self):
        yard = line_yard([1, 1, 1], (0, 2, 2))
        yard.do(("in", 0, 0))
        twin = yard.twin()
        self.assert_refused(twin, NoMove, "do", ("in", 0, 0))
        self.assertEqual(all_told(twin), all_told(yard))


class TestNothingIsChanged(YardCase):
    def test_what_is_told_is_the_askers_own(self):
        yard = line_yard([2, 2, 2], (0, 2, 2), (0, 1, 1))
        for move in (("in", 0, 0), ("in", 0, 0), ("in", 1, 2), ("lie", 2), ("on", 0, 1)):
            yard.do(move)
        before = all_told(yard)
        for told in (yard.lane_told(0)[3], yard.way_told(0), yard.lying(1), yard.history(), yard.moves()):
            self.assertIs(type(told), list)
            told.append(("lie", 1))
            told.pop(0)
            told.insert(0, (5, 5))
            self.assertEqual(all_told(yard), before)

    def test_what_was_told_stays(self):
        chance = random.Random(24)
        for yard in some_yards(25)[::4]:
            told, kept = all_told(yard), repr(all_told(yard))
            for again in do_some(chance, yard, 20):
                self.assertEqual(repr(told), kept)

    def test_two_yards_of_one_table(self):
        table = line_table()
        one, other = Yard(table), Yard(table)
        before = all_told(other)
        one.post(0, 2, 3)
        for again in do_some(random.Random(26), one, 20):
            self.assertEqual(all_told(other), before)

    def test_the_table_and_its_lists_stay(self):
        chance = random.Random(28)
        for yard in some_yards(27)[::3]:
            keeper = Keeper(yard.table)
            other = some_yard(chance, keeper, 4, 3, 2)
            for again in do_some(chance, other, 40):
                pass
            self.assertEqual(keeper.kept, all_ways(yard.table))

    def test_the_moves_told_of_a_keeper_are_the_askers_own(self):
        yard = Yard(Keeper(line_table()))
        yard.post(0, 2, 1)
        yard.moves().clear()
        self.assertEqual(yard.moves(), [("in", 0, 0), ("in", 0, 2)])


class TestByRules(YardCase):
    def test_a_row_first(self):
        yard = Yard(RowFirst(3, 2))
        self.assertEqual(yard.post(0, 5, 1), 0)
        for move in (("in", 0, 0), ("on", 0, 2), ("on", 2, 6)):
            self.assertIn(move, yard.moves())
            yard.do(move)
        self.assertEqual(yard.way_told(0), [0, 2, 6])
        yard.do(("lie", 6))
        self.assertEqual(yard.lying(5), [(0, 0)])

    def test_a_loop_a_tree_and_a_nearer(self):
        yard = Yard(Loop(3))
        yard.post(2, 1, 1)
        for move in (("in", 0, 2), ("on", 2, 3), ("lie", 3)):
            yard.do(move)
        self.assertTrue(yard.ended())
        yard = Yard(Tree([0, 0]))
        yard.post(1, 2, 1)
        for move in (("in", 0, 0), ("on", 0, 3), ("lie", 3)):
            yard.do(move)
        self.assertTrue(yard.ended())
        yard = Yard(Nearer(Land(3, [(0, 1), (0, 2), (1, 2), (0, 2)])))
        yard.post(0, 2, 1)
        self.assertEqual(yard.moves(), [("in", 0, 1), ("in", 0, 3)])

    def test_a_plain_table_has_no_starts(self):
        yard = Yard(Table(Land(4, CIRCLE)))
        self.assert_refused(yard, NoWay, "post", 0, 1, 1)

    def test_a_ring_comes_to_a_stand(self):
        yard = Yard(ring_table())
        for place in range(3):
            yard.post(place, (place + 2) % 3, 1)
        for place in range(3):
            yard.do(("in", place, place))
        self.assertEqual(yard.moves(), [])
        self.assertFalse(yard.ended())


if __name__ == "__main__":
    unittest.main()
