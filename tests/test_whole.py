"""Promise [2]: whole numbers and truths."""

import unittest

from wormyard.whole import is_one_of, is_whole, is_within


class TestWhole(unittest.TestCase):
    def test_ints_are_whole(self):
        for value in (0, 1, -1, 10 ** 60):
            self.assertIs(is_whole(value), True)

    def test_truths_and_others_are_not(self):
        for value in (True, False, None, "1", "", [1], (1,)):
            self.assertIs(is_whole(value), False)

    def test_within_takes_both_ends(self):
        self.assertEqual([is_within(value, 1, 3) for value in range(5)], [False, True, True, True, False])
        self.assertIs(is_within(0, 0, -1), False)

    def test_truths_are_within_nothing(self):
        self.assertIs(is_within(True, 0, 3), False)
        self.assertIs(is_within(False, 0, 3), False)
        self.assertIs(is_within("1", 0, 3), False)

    def test_one_of(self):
        self.assertIs(is_one_of(2, [0, 2]), True)
        self.assertIs(is_one_of(1, [0, 2]), False)
        self.assertIs(is_one_of(0, []), False)

    def test_truths_are_none_of_any(self):
        self.assertIs(is_one_of(True, [0, 1]), False)
        self.assertIs(is_one_of(False, [0, 1]), False)


if __name__ == "__main__":
    unittest.main()
