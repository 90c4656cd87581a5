"""Promises [32] and [33], and [2] and [3] as far as they go."""

import random
import unittest

from samples import (Keeper, all_tables, all_told, all_ways, circle_table, endless_table, ring_table, ruled_tables,
                     some_yard, some_yards)
from wormyard.lands import Land
from wormyard.looks import look
from wormyard.makers import Loop, RowFirst, Tree
from wormyard.runs import most_moves, run
from wormyard.tables import Table, Told
from wormyard.yards import Yard

GREAT = 10 ** 70


def tree_yard():
    yard = Yard(Tree([0, 0, 1]), [2, 1, 3, 1, 2, 2])
    for letter in ((3, 2, 3), (1, 2, 2, 5), (2, 3, 4, -5), (0, 3, 1)):
        yard.post(*letter)
    return yard


class TestRun(unittest.TestCase):
    def by_hand(self, yard, numbers, most):
        """The moves that a picker of these numbers makes, made by hand."""
        made = []
        for number in numbers:
            moves = yard.moves()
            if not moves or len(made) >= most:
                break
            made.append(moves[number % len(moves)])
            yard.do(made[-1])
        return made

    def test_numbers_of_any_size(self):
        chance = random.Random(1)
        for size in (1, 2, 5, 100, GREAT):
            for yard in some_yards(size % 97)[::6]:
                twin = yard.twin()
                numbers = [chance.randint(-size, size) for step in range(1000)]
                line = iter(numbers)
                made = run(yard, lambda moves: next(line), 1000)
                self.assertEqual(made, self.by_hand(twin, numbers, 1000))
                self.assertEqual(all_told(yard), all_told(twin))

    def test_the_first_and_the_last_move(self):
        for number, at in ((0, 0), (-1, -1), (GREAT * 60, None)):
            yard = tree_yard()
            first = yard.moves()
            made = run(yard, lambda moves: number, 1)
            self.assertEqual(made, [first[GREAT * 60 % len(first) if at is None else at]])

    def test_below_nought_counts_from_the_end(self):
        yard = tree_yard()
        first = yard.moves()
        self.assertGreater(len(first), 2)
        for number in range(-2 * len(first), 2 * len(first)):
            self.assertEqual(run(tree_yard(), lambda moves: number, 1), [first[number % len(first)]])

    def test_most(self):
        for most in (1, 2, 5, 10):
            yard = tree_yard()
            history = yard.history()
            made = run(yard, lambda moves: 0, most)
            self.assertEqual(len(made), most)
            self.assertEqual(yard.history(), history + made)
            self.assertIs(type(made), list)

    def test_most_of_nought_and_below(self):
        for most in (0, -1, -GREAT):
            yard = tree_yard()
            before = all_told(yard)
            asked = []
            self.assertEqual(run(yard, asked.append, most), [])
            self.assertEqual(asked, [])
            self.assertEqual(all_told(yard), before)

    def test_more_than_there_are(self):
        for most in (10000, GREAT):
            yard = tree_yard()
            made = run(yard, lambda moves: 7, most)
            self.assertEqual(yard.moves(), [])
            self.assertTrue(yard.ended())
            self.assertEqual([deed for deed in yard.history() if deed[0] != "post"], made)
            self.assertEqual(run(yard, lambda moves: 7, most), [])

    def test_just_as_many_as_there_are_one_less_and_one_more(self):
        all_made = run(tree_yard(), lambda moves: 1, 10000)
        for most in (len(all_made) - 1, len(all_made), len(all_made) + 1):
            self.assertEqual(run(tree_yard(), lambda moves: 1, most), all_made[:most])

    def test_no_moves(self):
        for yard in (Yard(Table(Land(3, []))), Yard(RowFirst(3, 2))):
            asked = []
            self.assertEqual(run(yard, asked.append, 9), [])
            self.assertEqual(asked, [])

    def test_a_still_yard_ends_the_run(self):
        yard = Yard(ring_table())
        for place in range(3):
            yard.post(place, (place + 2) % 3, 2)
        made = run(yard, lambda moves: 0, 100)
        self.assertEqual(made, [("in", 0, 0), ("in", 1, 1), ("in", 2, 2)])
        self.assertFalse(yard.ended())

    def test_it_is_asked_once_for_each_move_with_all_moves(self):
        asked = []

        def pick(moves):
            self.assertIs(type(moves), list)
            self.assertEqual(moves, yard.moves())
            asked.append(list(moves))
            return 3

        yard = tree_yard()
        made = run(yard, pick, 10000)
        self.assertEqual(len(asked), len(made))
        self.assertEqual([moves[3 % len(moves)] for moves in asked], made)

    def test_a_picker_that_changes_its_list(self):
        def clear(moves):
            moves.clear()
            return 5

        def turn(moves):
            moves.reverse()
            moves.append(("lie", 0))
            moves[0] = ("in", 9, 9)
            return 5

        wanted = run(tree_yard(), lambda moves: 5, 10000)
        self.assertEqual(run(tree_yard(), clear, 10000), wanted)
        self.assertEqual(run(tree_yard(), turn, 10000), wanted)

    def test_lists_that_were_handed_to_the_picker_stay(self):
        kept = []

        def pick(moves):
            kept.append((moves, list(moves)))
            return 2

        run(tree_yard(), pick, 10000)
        for handed, copy in kept:
            self.assertEqual(handed, copy)
        self.assertEqual(len({id(handed) for handed, copy in kept}), len(kept))

    def test_what_is_told_is_the_askers_own(self):
        yard = tree_yard()
        made = run(yard, lambda moves: 0, 5)
        made.clear()
        self.assertEqual(len(yard.history()), 9)

    def test_several_runs_make_one(self):
        whole = run(tree_yard(), lambda moves: 4, 10000)
        yard = tree_yard()
        parts = []
        while yard.moves():
            parts += run(yard, lambda moves: 4, 3)
        self.assertEqual(parts, whole)

    def test_the_table_stays(self):
        for table in all_tables()[::5]:
            keeper = Keeper(table)
            run(some_yard(random.Random(3), keeper, 5, 4, 3), lambda moves: 11, 500)
            self.assertEqual(keeper.kept, all_ways(table))


class TestToldCount(unittest.TestCase):
    def test_by_hand(self):
        self.assertEqual(most_moves(tree_yard()), 10 * 13)
        self.assertEqual(most_moves(Yard(RowFirst(4, 3))), 0)
        self.assertEqual(most_moves(Yard(Table(Land(1, [])))), 0)
        yard = Yard(Loop(12))
        for number in range(60):
            yard.post(0, 11, 60)
        self.assertEqual(most_moves(yard), 3600 * 49)

    def test_it_hangs_on_the_letters_alone(self):
        yard = tree_yard()
        run(yard, lambda moves: 1, 10000)
        self.assertEqual(most_moves(yard), 10 * 13)
        yard.post(0, 1, 7)
        self.assertEqual(most_moves(yard), 17 * 13)

    def test_it_is_never_passed(self):
        chance = random.Random(5)
        for again in range(2):
            for yard in some_yards(again, letters=6, length=5):
                made = run(yard, lambda moves: chance.randrange(1000), 10000)
                self.assertEqual(yard.moves(), [])
                self.assertLessEqual(len(made), most_moves(yard))

    def test_it_can_be_come_to(self):
        # One lane: each piece goes in, lies and has its right brought.
        for room in (1, 3, 60):
            yard = Yard(Told(Land(2, [(0, 1)]), [(0, 1, None, [0])]), [room])
            yard.post(0, 1, 5)
            yard.post(0, 1, 60)
            self.assertEqual(most_moves(yard), 65 * 3)
            self.assertEqual(len(run(yard, lambda moves: 0, 1000)), 65 * 3)


class TestTheWhole(unittest.TestCase):
    """[3]: what holds whichever moves are picked."""

    def pickers(self):
        chance = random.Random(7)
        return [lambda moves: 0, lambda moves: -1, lambda moves: chance.randrange(1000),
                lambda moves: max(range(len(moves)), key=lambda at: (moves[at][0] == "in", at)),
                lambda moves: max(range(len(moves)), key=lambda at: (moves[at][0] == "back", -at))]

    def assert_in_order(self, yard):
        """The pieces that lie do so at their letter's goal, in order, each once."""
        there = {}
        for place in range(yard.table.land.places):
            for number, count in yard.lying(place):
                self.assertEqual(yard.letter_told(number)[1], place)
                self.assertEqual(count, there.get(number, 0))
                there[number] = count + 1
        for number, many in there.items():
            self.assertLessEqual(many, yard.letter_told(number)[2])

    def assert_first_in_lies_first(self, yard, heads):
        """Of letters with the same way the one whose head went in first lies first; tell how many pairs were held."""
        held = 0
        lie = [piece for place in range(yard.table.land.places) for piece in yard.lying(place)]
        for at, one in enumerate(heads):
            for other in heads[at + 1:]:
                if (yard.way_told(one), yard.letter_told(one)[1]) == (yard.way_told(other), yard.letter_told(other)[1]):
                    of_both = [number for number, count in lie if number in (one, other)]
                    self.assertEqual(of_both, sorted(of_both, key=[one, other].index))
                    held += other in of_both
        return held

    def test_pieces_that_lie(self):
        held = 0
        for pick in self.pickers():
            for yard in some_yards(8, letters=12, length=3, room=4)[::3]:
                heads = []
                while yard.moves():
                    for move in run(yard, pick, 7):
                        if move[0] == "in" and move[1] not in heads:
                            heads.append(move[1])
                    self.assert_in_order(yard)
                held += self.assert_first_in_lies_first(yard, heads)
        self.assertGreater(held, 1000)

    def test_letters_of_one_way_behind_each_move(self):
        chance = random.Random(9)
        yard = Yard(RowFirst(4, 1), [2, 1, 3, 1, 1, 1])
        for number in range(8):
            yard.post(0, 3, 1 + number % 3)
        heads = []
        while yard.moves():
            for move in run(yard, lambda moves: chance.randrange(99), 1):
                if move[0] == "in" and move[1] not in heads:
                    heads.append(move[1])
            self.assert_in_order(yard)
            self.assert_first_in_lies_first(yard, heads)
        self.assertTrue(yard.ended())
        self.assertNotEqual(heads, sorted(heads))
        self.assertEqual([number for number, count in yard.lying(3) if count == 0], heads)

    def test_with_a_paper_each_run_comes_to_its_end(self):
        papers = 0
        for pick in self.pickers():
            for yard in some_yards(10, letters=8, length=6, room=2):
                if look(yard.table)[0] == "paper":
                    papers += 1
                    run(yard, pick, 10000)
                    self.assertTrue(yard.ended())
                    for lane in range(len(yard.table.land.lanes)):
                        rights, back, holder, pieces = yard.lane_told(lane)
                        self.assertEqual((back, holder, pieces), (0, None, []))
        self.assertGreater(papers, 300)

    def test_tables_made_by_rules_with_rooms_of_one_and_many_letters(self):
        for pick in self.pickers()[2:4]:
            for table in ruled_tables():
                yard = some_yard(random.Random(11), table, 15, 9, 1)
                self.assertLessEqual(len(run(yard, pick, 10000)), most_moves(yard))
                self.assertTrue(yard.ended())
                self.assert_in_order(yard)

    def test_without_a_paper_it_may_come_to_none(self):
        yard = Yard(endless_table())
        yard.post(1, 3, 2)
        run(yard, lambda moves: 0, 1000)
        self.assertFalse(yard.ended())
        yard = Yard(circle_table())
        yard.post(0, 3, 2)
        run(yard, lambda moves: 0, 1000)
        self.assertFalse(yard.ended())


if __name__ == "__main__":
    unittest.main()
