"""Promises [21] to [24], and [2] as far as it goes."""

import random
import unittest

from wormyard.errors import NoMove
from wormyard.lanes import Lane

GREAT = 10 ** 70
ROOMS = [1, 2, 3, 60, GREAT]


def filled(room, pieces):
    """A lane with these pieces (letter, count, last) put into it."""
    lane = Lane(room)
    for letter, count, last in pieces:
        lane.put(letter, count, last)
    return lane


class LaneCase(unittest.TestCase):
    def assert_refused(self, lane, deed, *values):
        """The deed is refused with NoMove and changes nothing."""
        before = lane.told()
        with self.assertRaises(NoMove):
            getattr(lane, deed)(*values)
        self.assertEqual(lane.told(), before)


class TestNew(LaneCase):
    def test_at_first(self):
        for room in ROOMS:
            lane = Lane(room)
            self.assertEqual(lane.told(), (room, 0, None, []))
            self.assertIsNone(lane.front())
            self.assertIs(type(lane.told()), tuple)
            self.assertIs(type(lane.told()[3]), list)

    def test_nothing_to_pull_or_to_bring(self):
        for room in ROOMS:
            self.assert_refused(Lane(room), "pull")
            self.assert_refused(Lane(room), "bring")

    def test_open_to_heads_alone(self):
        for letter in (0, 1, 7, GREAT):
            self.assertIs(Lane(1).open_to(letter, 0), True)
            for count in (1, 2, 59, GREAT):
                self.assertIs(Lane(1).open_to(letter, count), False)
                self.assert_refused(Lane(5), "put", letter, count, False)
                self.assert_refused(Lane(5), "put", letter, count, True)


class TestPut(LaneCase):
    def test_a_head_holds_the_lane(self):
        lane = Lane(3)
        self.assertIsNone(lane.put(4, 0, False))
        self.assertEqual(lane.told(), (2, 0, 4, [(4, 0)]))
        self.assertEqual(lane.front(), (4, 0))

    def test_bodies_and_the_tail_follow(self):
        lane = filled(5, [(4, 0, False), (4, 1, False)])
        self.assertEqual(lane.told(), (3, 0, 4, [(4, 0), (4, 1)]))
        lane.put(4, 2, True)
        self.assertEqual(lane.told(), (2, 0, None, [(4, 0), (4, 1), (4, 2)]))
        self.assertEqual(lane.front(), (4, 0))

    def test_a_letter_of_one_piece_holds_it_at_no_time(self):
        lane = filled(3, [(4, 0, True)])
        self.assertEqual(lane.told(), (2, 0, None, [(4, 0)]))
        lane.put(4, 0, True)
        lane.put(9, 0, True)
        self.assertEqual(lane.told(), (0, 0, None, [(4, 0), (4, 0), (9, 0)]))

    def test_no_right(self):
        lane = filled(1, [(4, 0, False)])
        self.assertIs(lane.open_to(4, 1), False)
        self.assert_refused(lane, "put", 4, 1, False)
        self.assert_refused(lane, "put", 4, 1, True)
        lane = filled(2, [(4, 0, False), (4, 1, True)])
        self.assertIs(lane.open_to(5, 0), False)
        self.assert_refused(lane, "put", 5, 0, False)

    def test_a_right_on_its_way_back_is_none(self):
        lane = filled(1, [(4, 0, True)])
        lane.pull()
        self.assertIs(lane.open_to(5, 0), False)
        self.assert_refused(lane, "put", 5, 0, True)
        lane.bring()
        self.assertIs(lane.open_to(5, 0), True)

    def test_held_by_another_letter(self):
        lane = filled(3, [(4, 0, False)])
        for count in (0, 1, 2):
            self.assertIs(lane.open_to(5, count), False)
            self.assert_refused(lane, "put", 5, count, False)
            self.assert_refused(lane, "put", 5, count, True)
        self.assertIs(lane.open_to(4, 1), True)

    def test_a_head_where_its_own_letter_holds_the_lane(self):
        lane = filled(3, [(4, 0, False)])
        self.assertIs(lane.open_to(4, 0), False)
        self.assert_refused(lane, "put", 4, 0, False)
        self.assert_refused(lane, "put", 4, 0, True)

    def test_a_body_where_nobody_holds_the_lane(self):
        lane = filled(4, [(4, 0, False), (4, 1, True)])
        for letter in (0, 4, 5):
            self.assertIs(lane.open_to(letter, 1), False)
            self.assertIs(lane.open_to(letter, 2), False)
            self.assert_refused(lane, "put", letter, 2, False)

    def test_letter_nought_holds_a_lane_like_any_other_one(self):
        lane = filled(3, [(0, 0, False)])
        self.assertEqual(lane.told(), (2, 0, 0, [(0, 0)]))
        self.assertIs(lane.open_to(1, 0), False)
        self.assertIs(lane.open_to(0, 0), False)
        self.assertIs(lane.open_to(0, 1), True)

    def test_the_holder_stays_when_its_pieces_leave(self):
        lane = filled(2, [(4, 0, False)])
        lane.pull()
        self.assertEqual(lane.told(), (1, 1, 4, []))
        self.assertIs(lane.open_to(5, 0), False)
        self.assertIs(lane.open_to(4, 1), True)
        lane.put(4, 1, True)
        self.assertEqual(lane.told(), (0, 1, None, [(4, 1)]))

    def test_another_letter_behind_the_tail(self):
        lane = filled(9, [(4, 0, False), (4, 1, True), (2, 0, False)])
        self.assertEqual(lane.told(), (6, 0, 2, [(4, 0), (4, 1), (2, 0)]))
        self.assert_refused(lane, "put", 4, 2, True)
        lane.put(2, 1, False)
        self.assertEqual(lane.told(), (5, 0, 2, [(4, 0), (4, 1), (2, 0), (2, 1)]))

    def test_letters_and_counts_of_any_size(self):
        lane = filled(GREAT, [(GREAT, 0, False), (GREAT, GREAT, False), (GREAT, GREAT + 1, True)])
        self.assertEqual(lane.told(), (GREAT - 3, 0, None, [(GREAT, 0), (GREAT, GREAT), (GREAT, GREAT + 1)]))
        self.assertEqual(lane.pull(), (GREAT, 0))
        self.assertEqual(lane.told()[:3], (GREAT - 3, 1, None))

    def test_equal_numbers_are_one_letter(self):
        lane = filled(3, [(int("1" + "0" * 70), 0, False)])
        self.assertIs(lane.open_to(GREAT, 1), True)
        self.assertIs(lane.open_to(GREAT + 1, 1), False)


class TestPullAndBring(LaneCase):
    def test_first_in_first_out(self):
        lane = filled(4, [(4, 0, False), (4, 1, True), (2, 0, True)])
        self.assertEqual(lane.front(), (4, 0))
        self.assertEqual(lane.pull(), (4, 0))
        self.assertEqual(lane.told(), (1, 1, None, [(4, 1), (2, 0)]))
        self.assertEqual(lane.front(), (4, 1))
        self.assertEqual(lane.pull(), (4, 1))
        self.assertEqual(lane.pull(), (2, 0))
        self.assertIs(type(filled(1, [(4, 0, True)]).pull()), tuple)
        self.assertEqual(lane.told(), (1, 3, None, []))
        self.assertIsNone(lane.front())
        self.assert_refused(lane, "pull")

    def test_each_right_is_brought_once(self):
        lane = filled(2, [(4, 0, False), (4, 1, True)])
        self.assert_refused(lane, "bring")
        lane.pull()
        self.assertIsNone(lane.bring())
        self.assertEqual(lane.told(), (1, 0, None, [(4, 1)]))
        self.assert_refused(lane, "bring")
        lane.pull()
        lane.bring()
        self.assertEqual(lane.told(), (2, 0, None, []))
        self.assert_refused(lane, "bring")

    def test_the_front_and_open_to_change_nothing(self):
        lane = filled(3, [(4, 0, False), (4, 1, False)])
        before = lane.told()
        for again in range(3):
            self.assertEqual(lane.front(), (4, 0))
            lane.open_to(4, 2)
            lane.open_to(5, 0)
        self.assertEqual(lane.told(), before)


class TestTold(LaneCase):
    def test_what_is_told_is_the_askers_own(self):
        lane = filled(3, [(4, 0, False), (4, 1, False)])
        lane.told()[3].append((9, 9))
        lane.told()[3].clear()
        self.assertEqual(lane.told(), (1, 0, 4, [(4, 0), (4, 1)]))
        told = lane.told()
        lane.pull()
        lane.put(4, 2, True)
        self.assertEqual(told, (1, 0, 4, [(4, 0), (4, 1)]))

    def test_two_lanes_have_nothing_in_common(self):
        one, other = Lane(2), Lane(2)
        one.put(1, 0, False)
        self.assertEqual(other.told(), (2, 0, None, []))


class Count:
    """A lane by the words of [21] to [23], kept as a row of all that happened."""

    def __init__(self, room):
        self.room, self.put, self.pulled, self.brought = room, [], 0, 0

    def rights(self):
        return self.room - len(self.put) + self.brought

    def holder(self):
        return self.put[-1][0] if self.put and not self.put[-1][2] else None

    def may(self, deed, values):
        if deed == "pull":
            return self.pulled < len(self.put)
        if deed == "bring":
            return self.brought < self.pulled
        letter, count = values[:2]
        return self.rights() > 0 and self.holder() == (letter if count else None)

    def do(self, deed, values):
        if deed == "put":
            self.put.append(values)
        elif deed == "pull":
            self.pulled += 1
        else:
            self.brought += 1

    def told(self):
        pieces = [(letter, count) for letter, count, last in self.put[self.pulled:]]
        return (self.rights(), self.pulled - self.brought, self.holder(), pieces)


class TestRows(LaneCase):
    def some_deed(self, chance, size):
        deed = chance.choice(["put", "put", "put", "pull", "bring"])
        if deed != "put":
            return deed, ()
        return deed, (chance.randrange(3) * size, chance.choice([0, 1, 2]) * size, chance.randrange(2) == 0)

    def test_rows_of_puts_pulls_and_brings(self):
        chance = random.Random(3)
        done, refused = 0, 0
        for room in ROOMS * 4:
            size = chance.choice([1, GREAT])
            lane, count = Lane(room), Count(room)
            for step in range(300):
                deed, values = self.some_deed(chance, size)
                if deed == "put":
                    self.assertIs(lane.open_to(*values[:2]), count.may(deed, values))
                if count.may(deed, values):
                    done += 1
                    front = lane.front()
                    given = getattr(lane, deed)(*values)
                    self.assertEqual(given, front if deed == "pull" else None)
                    count.do(deed, values)
                else:
                    refused += 1
                    self.assert_refused(lane, deed, *values)
                rights, back, holder, pieces = lane.told()
                self.assertEqual(lane.told(), count.told())
                self.assertEqual(rights + back + len(pieces), room)
                self.assertEqual(lane.front(), pieces[0] if pieces else None)
        self.assertGreater(min(done, refused), 1000)

    def test_a_long_row_in_a_great_room(self):
        lane = Lane(GREAT)
        for count in range(5000):
            lane.put(7, count, False)
        self.assertEqual(lane.told()[:3], (GREAT - 5000, 0, 7))
        for count in range(5000):
            self.assertEqual(lane.pull(), (7, count))
        self.assertEqual(lane.told(), (GREAT - 5000, 5000, 7, []))
        for count in range(5000):
            lane.bring()
        self.assertEqual(lane.told(), (GREAT, 0, 7, []))


if __name__ == "__main__":
    unittest.main()
