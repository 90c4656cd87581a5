"""Promises [4] and [6], and [2] as far as lands go."""

import copy
import unittest

from wormyard.errors import NoPlaces, NoRoad, TooMany
from wormyard.lands import Land

FORTY = [(k % 3, (k + 1) % 3) for k in range(40)]


class TestPlaces(unittest.TestCase):
    def test_one_to_twelve(self):
        for places in range(1, 13):
            with self.subTest(places=places):
                self.assertEqual(Land(places, []).places, places)

    def test_others_are_refused(self):
        for places in (0, 13, 14, 60, 10 ** 20, -1, -12):
            with self.subTest(places=places):
                with self.assertRaises(NoPlaces):
                    Land(places, [])

    def test_truths_are_no_number_of_places(self):
        for places in (True, False):
            with self.assertRaises(NoPlaces):
                Land(places, [])


class TestManyLanes(unittest.TestCase):
    def test_none(self):
        self.assertEqual(Land(3, []).lanes, ())

    def test_forty(self):
        self.assertEqual(Land(3, FORTY).lanes, tuple(FORTY))

    def test_more_are_refused_with_how_many(self):
        for many in (41, 42, 100):
            with self.subTest(many=many):
                with self.assertRaises(TooMany) as caught:
                    Land(2, [(0, 1)] * many)
                self.assertEqual(caught.exception.many, many)


class TestRoads(unittest.TestCase):
    def refused_lane(self, places, lanes):
        with self.assertRaises(NoRoad) as caught:
            Land(places, lanes)
        return caught.exception.lane

    def test_start_is_no_place(self):
        for start in (3, 4, 12, -1, -3):
            with self.subTest(start=start):
                self.assertEqual(self.refused_lane(3, [(start, 1)]), 0)

    def test_end_is_no_place(self):
        for end in (3, 4, 12, -1, -3):
            with self.subTest(end=end):
                self.assertEqual(self.refused_lane(3, [(0, end)]), 0)

    def test_both_are_one_place(self):
        for place in range(3):
            self.assertEqual(self.refused_lane(3, [(place, place)]), 0)

    def test_both_are_one_that_is_no_place(self):
        self.assertEqual(self.refused_lane(3, [(3, 3)]), 0)

    def test_a_land_of_one_place_has_no_lanes(self):
        self.assertEqual(self.refused_lane(1, [(0, 0)]), 0)
        self.assertEqual(self.refused_lane(1, [(0, 1)]), 0)
        self.assertEqual(self.refused_lane(1, [(1, 0)]), 0)

    def test_the_last_place_is_one(self):
        for places in range(2, 13):
            pairs = ((places - 1, 0), (0, places - 1))
            self.assertEqual(Land(places, list(pairs)).lanes, pairs)

    def test_lane_is_the_number_of_the_bad_one(self):
        good = [(0, 1), (1, 2), (2, 0), (0, 1)]
        for number in range(4):
            for bad in ((3, 0), (0, 3), (1, 1), (-1, 0), (0, -1)):
                lanes = list(good)
                lanes[number] = bad
                with self.subTest(number=number, bad=bad):
                    self.assertEqual(self.refused_lane(3, lanes), number)

    def test_the_first_of_several_bad_ones(self):
        self.assertEqual(self.refused_lane(3, [(0, 1), (2, 2), (0, 9), (-1, 0)]), 1)
        self.assertEqual(self.refused_lane(3, [(0, 1), (1, 0), (0, 9), (2, 2)]), 2)
        self.assertEqual(self.refused_lane(3, [(9, 0), (0, 9), (2, 2)]), 0)

    def test_the_last_of_forty(self):
        self.assertEqual(self.refused_lane(3, FORTY[:39] + [(0, 3)]), 39)

    def test_truths_are_no_places(self):
        self.assertEqual(self.refused_lane(3, [(0, 1), (True, 2)]), 1)
        self.assertEqual(self.refused_lane(3, [(0, 1), (2, False)]), 1)


class TestWhichRefusalComesFirst(unittest.TestCase):
    def test_places_ahead_of_many(self):
        for places in (0, 13):
            with self.assertRaises(NoPlaces):
                Land(places, [(0, 1)] * 41)

    def test_places_ahead_of_roads(self):
        for places in (0, 13, -1):
            with self.assertRaises(NoPlaces):
                Land(places, [(20, 20)])

    def test_many_ahead_of_roads(self):
        with self.assertRaises(TooMany) as caught:
            Land(2, [(5, 5)] + [(0, 1)] * 40)
        self.assertEqual(caught.exception.many, 41)

    def test_places_ahead_of_all(self):
        with self.assertRaises(NoPlaces):
            Land(0, [(0, 0)] * 41)


class TestWhatIsTold(unittest.TestCase):
    def setUp(self):
        self.pairs = [(2, 0), (0, 1), (0, 2), (2, 0), (1, 0), (0, 1)]
        self.land = Land(4, self.pairs)

    def test_lanes(self):
        self.assertEqual(self.land.lanes, tuple(self.pairs))
        self.assertIs(type(self.land.lanes), tuple)
        for pair in self.land.lanes:
            self.assertIs(type(pair), tuple)

    def test_starts_and_ends(self):
        self.assertEqual([self.land.start_of(lane) for lane in range(6)], [2, 0, 0, 2, 1, 0])
        self.assertEqual([self.land.end_of(lane) for lane in range(6)], [0, 1, 2, 0, 0, 1])

    def test_out_of(self):
        self.assertEqual([self.land.out_of(place) for place in range(4)], [[1, 2, 5], [4], [0, 3], []])

    def test_into(self):
        self.assertEqual([self.land.into(place) for place in range(4)], [[0, 3, 4], [1, 5], [2], []])

    def test_lists_are_told(self):
        for place in range(4):
            self.assertIs(type(self.land.out_of(place)), list)
            self.assertIs(type(self.land.into(place)), list)

    def test_forty_lanes_rising(self):
        land = Land(3, FORTY)
        for place in range(3):
            self.assertEqual(land.out_of(place), [k for k in range(40) if k % 3 == place])
            self.assertEqual(land.into(place), [k for k in range(40) if (k + 1) % 3 == place])

    def test_a_lane_never_leads_back(self):
        land = Land(2, [(1, 0)])
        self.assertEqual((land.out_of(0), land.out_of(1)), ([], [0]))
        self.assertEqual((land.into(0), land.into(1)), ([0], []))


class TestNothingIsChanged(unittest.TestCase):
    def test_the_list_handed_in_stays(self):
        pairs = [(0, 1), (1, 0), (0, 1)]
        kept = copy.deepcopy(pairs)
        Land(2, pairs)
        self.assertEqual(pairs, kept)

    def test_the_list_handed_in_stays_where_it_is_refused(self):
        for places, pairs in ((0, [(0, 1)]), (2, [(0, 1)] * 41), (2, [(0, 1), (1, 1), (5, 0)])):
            kept = copy.deepcopy(pairs)
            with self.assertRaises((NoPlaces, TooMany, NoRoad)):
                Land(places, pairs)
            self.assertEqual(pairs, kept)

    def test_the_list_handed_in_changed_behind_changes_nothing(self):
        pairs = [(0, 1), (1, 0)]
        land = Land(2, pairs)
        pairs[0] = (1, 0)
        pairs.append((0, 1))
        self.assertEqual(land.lanes, ((0, 1), (1, 0)))
        self.assertEqual((land.out_of(0), land.into(0)), ([0], [1]))
        self.assertEqual((land.start_of(0), land.end_of(0)), (0, 1))

    def test_a_pair_handed_in_as_a_list_changed_behind_changes_nothing(self):
        pair = [0, 1]
        land = Land(2, [pair])
        pair.reverse()
        self.assertEqual(land.lanes, ((0, 1),))

    def test_lists_told_changed_behind_change_nothing(self):
        land = Land(3, [(0, 1), (1, 0), (0, 2)])
        for place, out, into in ((0, [0, 2], [1]), (1, [1], [0]), (2, [], [2])):
            land.out_of(place).append(7)
            land.into(place).append(7)
            land.out_of(place).clear()
            land.into(place).clear()
            self.assertEqual(land.out_of(place), out)
            self.assertEqual(land.into(place), into)
        self.assertEqual(land.lanes, ((0, 1), (1, 0), (0, 2)))

    def test_two_lands_stand_apart(self):
        first = Land(2, [(0, 1)])
        second = Land(3, [(2, 1), (1, 0)])
        self.assertEqual((first.places, first.lanes), (2, ((0, 1),)))
        self.assertEqual((second.places, second.lanes), (3, ((2, 1), (1, 0))))


if __name__ == "__main__":
    unittest.main()
