"""Promise [5], and [2] as far as sets go."""

import itertools
import unittest

from wormyard.bits import has, members, set_of


class TestSetOf(unittest.TestCase):
    def test_the_set_that_the_document_names(self):
        self.assertEqual(set_of([0, 2]), 5)

    def test_empty_list(self):
        self.assertEqual(set_of([]), 0)

    def test_each_number_by_itself(self):
        for number in range(70):
            self.assertEqual(set_of([number]), 1 << number)

    def test_any_order(self):
        for numbers in itertools.permutations([0, 3, 4, 11]):
            self.assertEqual(set_of(list(numbers)), 1 + 8 + 16 + 2048)

    def test_numbers_twice_count_once(self):
        self.assertEqual(set_of([2, 0, 2]), 5)
        self.assertEqual(set_of([1, 1]), 2)
        self.assertEqual(set_of([0, 0, 0]), 1)
        self.assertEqual(set_of([39, 1, 39, 1, 39]), (1 << 39) + 2)

    def test_the_list_handed_in_stays(self):
        numbers = [4, 0, 4, 2]
        set_of(numbers)
        self.assertEqual(numbers, [4, 0, 4, 2])

    def test_a_set_is_a_whole_number(self):
        for numbers in ([], [0], [3, 1]):
            self.assertIs(type(set_of(numbers)), int)


class TestMembers(unittest.TestCase):
    def test_the_set_that_the_document_names(self):
        self.assertEqual(members(5), [0, 2])

    def test_empty_set(self):
        self.assertEqual(members(0), [])

    def test_rising(self):
        self.assertEqual(members(set_of([39, 0, 12, 3])), [0, 3, 12, 39])

    def test_all_of_forty(self):
        self.assertEqual(members((1 << 40) - 1), list(range(40)))

    def test_sets_beyond_forty(self):
        self.assertEqual(members(1 << 40), [40])
        self.assertEqual(members(set_of([200, 64, 63, 0])), [0, 63, 64, 200])

    def test_is_a_list(self):
        self.assertIs(type(members(0)), list)
        self.assertIs(type(members(6)), list)

    def test_there_and_back(self):
        for some in range(600):
            self.assertEqual(set_of(members(some)), some)

    def test_a_told_list_that_is_changed_changes_nothing_later(self):
        for some in (0, 5):
            first = members(some)
            kept = list(first)
            first.append(9)
            self.assertEqual(members(some), kept)
            self.assertIsNot(members(some), members(some))


class TestHas(unittest.TestCase):
    def test_the_set_that_the_document_names(self):
        self.assertEqual([has(5, number) for number in range(5)], [True, False, True, False, False])

    def test_tells_truths(self):
        self.assertIs(has(5, 0), True)
        self.assertIs(has(5, 1), False)
        self.assertIs(has(5, 2), True)
        self.assertIs(has(5, 3), False)

    def test_empty_set_has_nothing(self):
        for number in range(50):
            self.assertIs(has(0, number), False)

    def test_numbers_beyond_the_greatest_one(self):
        for number in (3, 4, 39, 40, 63, 64, 1000, 10 ** 9, 10 ** 30):
            self.assertIs(has(5, number), False)

    def test_greatest_one_itself(self):
        for number in range(100):
            self.assertIs(has(1 << number, number), True)
            self.assertIs(has(1 << number, number + 1), False)
            self.assertIs(has((1 << number) - 1, number), False)

    def test_numbers_below_0_are_in_no_set(self):
        self.assertIs(has(5, -1), False)
        self.assertIs(has(0, -3), False)

    def test_agrees_with_members(self):
        for some in range(300):
            told = [number for number in range(12) if has(some, number)]
            self.assertEqual(told, members(some))


if __name__ == "__main__":
    unittest.main()
