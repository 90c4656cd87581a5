"""Promise [2], and the interface of wormyard.errors."""

import unittest

from wormyard import errors

PLAIN = ["NoPlaces", "NotMet", "NoRooms", "NoPlace", "NoLength", "NoWord", "Full", "NoMove", "NoText", "NoRow"]
WITH_VALUES = ["TooMany", "NoRoad", "NoEntry", "NoWay"]


def refusals():
    return [getattr(errors, name) for name in PLAIN + WITH_VALUES]


class TestClasses(unittest.TestCase):
    def test_any_refusal_is_a_value_error(self):
        self.assertEqual(errors.YardError.__bases__, (ValueError,))

    def test_each_refusal_stands_under_yard_error(self):
        for refusal in refusals():
            with self.subTest(refusal=refusal.__name__):
                self.assertTrue(issubclass(refusal, errors.YardError))
                self.assertTrue(issubclass(refusal, ValueError))

    def test_no_refusal_stands_under_another_one(self):
        for refusal in refusals():
            for other in refusals():
                if refusal is not other:
                    with self.subTest(refusal=refusal.__name__, other=other.__name__):
                        self.assertFalse(issubclass(refusal, other))

    def test_no_refusal_is_any_other_one_by_another_name(self):
        self.assertEqual(len(set(refusals())), 14)
        self.assertNotIn(errors.YardError, refusals())

    def test_refusals_are_called_as_they_stand(self):
        for name in PLAIN + WITH_VALUES:
            self.assertEqual(getattr(errors, name).__name__, name)


class TestRaising(unittest.TestCase):
    def test_each_plain_one_is_taken_by_its_name_and_as_any(self):
        for name in PLAIN:
            for taken in (getattr(errors, name), errors.YardError, ValueError):
                with self.subTest(name=name, taken=taken.__name__):
                    with self.assertRaises(taken):
                        raise getattr(errors, name)("some words")

    def test_too_many_has_many(self):
        self.assertEqual(errors.TooMany(41).many, 41)

    def test_no_road_has_lane(self):
        self.assertEqual(errors.NoRoad(7).lane, 7)

    def test_no_entry_has_row(self):
        self.assertEqual(errors.NoEntry(3).row, 3)

    def test_no_way_has_start_and_goal(self):
        error = errors.NoWay(2, 5)
        self.assertEqual((error.start, error.goal), (2, 5))


if __name__ == "__main__":
    unittest.main()
