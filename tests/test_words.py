"""Words and numbers, as [40] and [43] write them."""

import unittest

from wormyard.words import number_of, row_of, signed_of, words_of

GREAT = 10 ** 60


class TestWords(unittest.TestCase):
    def test_parted_by_single_blanks(self):
        self.assertEqual(words_of("post 0 1"), ["post", "0", "1"])
        self.assertEqual(words_of(""), [""])
        self.assertEqual(words_of(" a  b "), ["", "a", "", "b", ""])
        self.assertEqual(words_of("a\tb\n"), ["a\tb\n"])

    def test_a_row(self):
        self.assertEqual(row_of(["way", 0, 1, None, 12, -3]), "way 0 1 - 12 -3")
        self.assertEqual(row_of(("rooms",)), "rooms")
        self.assertEqual(row_of([]), "")


class TestNumbers(unittest.TestCase):
    def test_numbers_from_nought_on(self):
        for number in (0, 1, 9, 10, 60, 100, GREAT // 10, GREAT - 1):
            self.assertEqual(number_of(str(number)), number)
            self.assertEqual(signed_of(str(number)), number)

    def test_below_nought(self):
        for number in (-1, -9, -10, -60, -(GREAT // 10), 1 - GREAT):
            self.assertIsNone(number_of(str(number)))
            self.assertEqual(signed_of(str(number)), number)

    def test_what_is_no_number(self):
        for word in ("", "-", "--1", "+1", "00", "01", "-0", "-01", "1-", "1.0", "1_0", "0x1", "1e1", " 1", "1 ", "a",
                     "1\n", "\t1", "None", "True", "- 1", "0" * 60, str(GREAT), str(-GREAT), "1" * 61, "1" * 5000,
                     "-" + "1" * 5000):
            with self.subTest(word=word):
                self.assertIsNone(number_of(word))
                self.assertIsNone(signed_of(word))


if __name__ == "__main__":
    unittest.main()
