"""Promises [40] to [42], and [2] as far as it goes."""

import random
import unittest

from samples import (CIRCLE, Keeper, all_tables, all_told, all_ways, do_some, nearer_tables, ring_table, ruled_tables,
                     some_yard, some_yards, stood, told_tables)
from wormyard.errors import NoText
from wormyard.lands import Land
from wormyard.less import Less
from wormyard.looks import look
from wormyard.makers import Loop, Nearer, RowFirst, Tree
from wormyard.runs import run
from wormyard.tables import Table, Told
from wormyard.texts import read_table, read_yard, table_text, yard_text
from wormyard.yards import Yard

GREAT = 10 ** 60
CIRCLE_TEXT = "places 3\nlane 0 1\nlane 1 2\nlane 2 0"
LINE = "places 3\nlane 0 1\nlane 1 2\nlane 0 1\nway 0 1 - 0 2\nway 0 2 - 0 2\nway 1 2 0 1\nway 1 2 2 1"
# A letter of two pieces goes all the way along the line; another one has its head in lane 2.
YARD = LINE + """
rooms 1 60 2
post 0 2 2 -5
in 0 0
on 0 1
back 0
in 0 0
lie 1
post 0 1 3 0
in 1 2
on 0 1
lie 1
back 1"""


def shown(table):
    """A table's text by the words of [40]."""
    rows = [f"places {table.land.places}"] + [f"lane {start} {end}" for start, end in table.land.lanes]
    ways = [(place, goal, -1 if came is None else came, lanes)
            for (place, goal, came), lanes in all_ways(table).items() if lanes]
    for place, goal, came, lanes in sorted(ways):
        rows.append(f"way {place} {goal} {'-' if came < 0 else came} " + " ".join(str(lane) for lane in lanes))
    return "\n".join(rows)


def yard_shown(yard):
    """A yard's text by the words of [42]."""
    rooms = [told[0] + told[1] + len(told[3]) for told in stood(yard)[0]]
    rows = [shown(yard.table), " ".join(["rooms"] + [str(room) for room in rooms])]
    return "\n".join(rows + [" ".join(str(thing) for thing in deed) for deed in yard.history()])


def less_tables():
    chance = random.Random(1)
    return [Less(table, chance.getrandbits(40)) for table in ruled_tables()[::3] + nearer_tables()[::4]]


class TestTableText(unittest.TestCase):
    def test_by_hand(self):
        self.assertEqual(table_text(Nearer(Land(2, [(0, 1)]))), "places 2\nlane 0 1\nway 0 1 - 0")
        self.assertEqual(table_text(Table(Land(1, []))), "places 1")
        self.assertEqual(table_text(Table(Land(12, []))), "places 12")
        self.assertEqual(table_text(Table(Land(3, [(0, 1), (1, 2), (2, 0)]))), CIRCLE_TEXT)
        self.assertEqual(table_text(Loop(2)),
                         "places 2\nlane 0 1\nlane 1 0\nlane 0 1\nlane 1 0\nway 0 1 - 0\nway 0 1 1 2"
                                              "\nway 0 1 3 2\nway 1 0 - 1\nway 1 0 0 1\nway 1 0 2 3")

    def test_ways_in_their_order(self):
        land = Land(12, [(11, 10)] * 11 + [(10, 11), (9, 11), (10, 9)])
        rows = [(11, 9, 12, [10, 2, 0]), (11, 9, None, [3]), (11, 0, 11, [1]), (10, 9, 10, [13]), (10, 9, 9, [11, 13]),
                (10, 11, None, []), (11, 9, 11, [])]
        text = table_text(Told(land, rows))
        self.assertEqual(text.split("\n")[15:], ["way 10 9 9 11 13", "way 10 9 10 13", "way 11 0 11 1", "way 11 9 - 3",
                                                 "way 11 9 12 0 2 10"])
        self.assertEqual(text.split("\n")[:3], ["places 12", "lane 11 10", "lane 11 10"])

    def test_all_tables(self):
        for table in all_tables() + less_tables():
            text = table_text(table)
            self.assertIs(type(text), str)
            self.assertEqual(text, shown(table))

    def test_the_table_stays(self):
        for table in all_tables()[::4]:
            keeper = Keeper(table)
            self.assertEqual(table_text(keeper), table_text(table))
            self.assertEqual(keeper.kept, all_ways(table))


class TestReadTable(unittest.TestCase):
    def test_all_tables(self):
        for table in all_tables() + less_tables():
            told = read_table(shown(table))
            self.assertIs(type(told), Told)
            self.assertEqual((told.land.places, told.land.lanes), (table.land.places, table.land.lanes))
            self.assertEqual(all_ways(told), all_ways(table))
            self.assertEqual(table_text(told), shown(table))

    def test_looks_are_alike(self):
        for table in told_tables()[::5] + nearer_tables()[::5] + ruled_tables()[::5]:
            self.assertEqual(look(read_table(table_text(table))), look(table))

    def test_great_tables(self):
        text = "places 12" + "\nlane 0 11" * 40 + "\nway 0 11 - " + " ".join(str(lane) for lane in range(40))
        self.assertEqual(read_table(text).ways(0, 11, None), list(range(40)))

    def refused(self, text):
        with self.assertRaises(NoText) as caught:
            read_table(text)
        self.assertIs(type(caught.exception), NoText)

    def test_what_is_no_text(self):
        for bad in (None, 0, 7, True, ["places 1"], ("places 1",), {}, b"places 1", Table(Land(1, []))):
            self.refused(bad)

    def test_no_rows(self):
        for bad in ("", " ", "\n", "\n\n", "places", "places ", " places 1", "1", "lane 0 1", "way 0 1 - 0", "rooms 1"):
            self.refused(bad)

    def test_places(self):
        for bad in ("0", "13", "-1", "01", "00", "1.0", "x", "1 1", "+1", "1" * 60, "1" * 61, "1" * 5000, "-", "None"):
            self.refused("places " + bad)
        self.refused("place 1")
        self.refused("Places 1")
        self.refused("places  1")

    def test_lanes(self):
        for bad in ("lane 0 3", "lane 3 0", "lane 1 1", "lane 0", "lane", "lane 0 1 2", "lane -1 0", "lane 00 1",
                    "lane 0-1",
                    "lane a b", "lane  0 1", "lane 0 1 ", " lane 0 1", "Lane 0 1", "lane " + "1" * 61 + " 0",
                    "lane 0 -"):
            with self.subTest(bad=bad):
                self.refused("places 3\n" + bad)
                self.refused(LINE + "\n" + bad)
        self.refused("places 2" + "\nlane 0 1" * 41)
        self.assertEqual(len(read_table("places 2" + "\nlane 0 1" * 40).land.lanes), 40)

    def test_ways(self):
        for bad in ("way 1 2 - 0", "way 1 1 - 1", "way 1 3 - 1", "way 3 1 - 1", "way 1 2 1 1", "way 1 2 3 1",
                    "way 1 2 -",
                    "way 1 2 0", "way 1 2", "way", "way 1 2 - 3", "way 1 2 - 01", "way 01 2 - 1", "way 1 2 -0 1",
                    "way 1 2 -1 1", "way 1 2 x 1", "way 1 2 - x", "way 1 2 - -", "way 1 2 None 1", "way 1 2 - 1 ",
                    "way 1 2 - 1 1", "way 1 2  - 1", " way 1 2 - 1", "way 1 2 - " + "1" * 61, "way 1 2 - 1,1"):
            with self.subTest(bad=bad):
                self.refused(CIRCLE_TEXT.replace("lane 2 0", "lane 0 1") + "\n" + bad)
        self.assertEqual(read_table(CIRCLE_TEXT + "\nway 1 2 - 1").ways(1, 2, None), [1])

    def test_lanes_of_a_way_out_of_order_or_twice(self):
        for bad in ("way 0 1 - 2 0", "way 0 1 - 0 0 2", "way 0 1 - 0 2 2", "way 0 1 - 0 1", "way 0 1 - 0 2 3"):
            self.refused(LINE.replace("way 0 1 - 0 2", bad))

    def test_rows_left_out_told_twice_or_exchanged(self):
        rows = LINE.split("\n")
        for at in range(len(rows)):
            self.refused("\n".join(rows[:at] + [""] + rows[at:]))
            if rows[at][:4] != "lane":
                self.refused("\n".join(rows[:at] + [rows[at]] + rows[at:]))
            for other in range(at):
                turned = list(rows)
                turned[at], turned[other] = rows[other], rows[at]
                if rows[at][:4] != "lane" or rows[other][:4] != "lane":
                    self.refused("\n".join(turned))
        self.refused("\n".join(rows[1:]))
        self.refused("\n".join(rows[:2] + rows[3:]))
        # Without its last rows a text still shows a table, another one.
        self.assertEqual(read_table("\n".join(rows[:-2])).ways(1, 2, 0), [])

    def test_blanks_and_line_feeds(self):
        for bad in (LINE + "\n", "\n" + LINE, LINE + " ", " " + LINE, LINE.replace("\n", "\n\n", 1), LINE + "\n\n",
                    LINE.replace("\n", " \n"), LINE.replace("\n", "\r\n"), LINE.replace(" ", "  "), LINE + "\r",
                    LINE.replace(" ", "\t"), LINE + "\t", LINE.replace("\n", " "), LINE.replace("\n", "\n ")):
            self.refused(bad)

    def test_a_yards_text_is_none_of_a_table(self):
        self.refused(YARD)
        self.refused(LINE + "\nrooms 1 1 1")

    def test_a_sign_more_less_or_changed(self):
        read = 0
        for text in (LINE, shown(ring_table()), shown(Loop(2)), shown(Tree([0, 0]))):
            for at in range(len(text) + 1):
                for sign in "0129- \nlx":
                    for end in (at, at + 1):
                        for changed in (text[:at] + sign + text[end:], text[:at] + text[end:]):
                            try:
                                told = read_table(changed)
                            except NoText:
                                continue
                            read += 1
                            self.assertEqual(shown(told), changed)
        self.assertGreater(read, 100)


class TestYardText(unittest.TestCase):
    def test_by_hand(self):
        self.assertEqual(yard_text(Yard(Table(Land(1, [])))), "places 1\nrooms")
        self.assertEqual(yard_text(Yard(Nearer(Land(2, [(0, 1)])), [60])), "places 2\nlane 0 1\nway 0 1 - 0\nrooms 60")
        yard = Yard(read_table(LINE), [1, 60, 2])
        yard.post(0, 2, 2, -5)
        for move in (("in", 0, 0), ("on", 0, 1), ("back", 0), ("in", 0, 0), ("lie", 1)):
            yard.do(move)
        yard.post(0, 1, 3)
        for move in (("in", 1, 2), ("on", 0, 1), ("lie", 1), ("back", 1)):
            yard.do(move)
        self.assertEqual(yard_text(yard), YARD)
        self.assertEqual(yard_text(yard.twin()), YARD)

    def test_many_yards(self):
        chance = random.Random(2)
        for yard in some_yards(3):
            for again in do_some(chance, yard, 20):
                pass
            before = all_told(yard)
            self.assertEqual(yard_text(yard), yard_shown(yard))
            self.assertEqual(all_told(yard), before)
            self.assertEqual(yard_text(yard.twin()), yard_shown(yard))

    def test_words_of_sixty_figures(self):
        for word in (GREAT - 1, 1 - GREAT, GREAT // 10, 0, -1):
            yard = Yard(read_table(LINE))
            yard.post(0, 2, 60, word)
            text = LINE + f"\nrooms 1 1 1\npost 0 2 60 {word}"
            self.assertEqual(yard_text(yard), text)
            self.assertEqual(read_yard(text).letter_told(0), (0, 2, 60, word))


class TestReadYard(unittest.TestCase):
    def refused(self, text):
        with self.assertRaises(NoText) as caught:
            read_yard(text)
        self.assertIs(type(caught.exception), NoText)

    def test_by_hand(self):
        yard = read_yard(YARD)
        self.assertIs(type(yard), Yard)
        self.assertIs(type(yard.table), Told)
        self.assertEqual(yard.lying(2), [(0, 0), (0, 1)])
        self.assertEqual(yard.lane_told(2), (1, 0, 1, [(1, 0)]))
        self.assertEqual(yard.lane_told(1), (59, 1, None, []))
        self.assertEqual(yard.history()[:2], [("post", 0, 2, 2, -5), ("in", 0, 0)])
        self.assertEqual(yard_text(yard), YARD)
        self.assertEqual(all_told(read_yard("places 1\nrooms")), all_told(Yard(Table(Land(1, [])))))

    def test_many_yards_go_on_alike(self):
        chance = random.Random(4)
        tables = all_tables()[::3] + less_tables()
        for table in tables:
            yard = some_yard(chance, table, 4, 4, 3)
            for again in do_some(chance, yard, chance.randrange(30)):
                pass
            other = read_yard(yard_shown(yard))
            self.assertEqual(all_told(other), all_told(yard))
            self.assertEqual(yard_text(other), yard_shown(yard))
            self.assertEqual(all_ways(other.table), all_ways(table))
            for again in do_some(chance, yard, 10):
                other.do(yard.history()[-1])
                self.assertEqual(all_told(other), all_told(yard))

    def test_a_long_history(self):
        yard = Yard(RowFirst(4, 3), [2] * 34)
        for number in range(60):
            yard.post(number % 12, (number + 5) % 12, 20, 10 ** number)
        run(yard, lambda moves: 7 * len(moves) // 9, 9000)
        self.assertGreater(len(yard.history()), 5000)
        other = read_yard(yard_text(yard))
        self.assertEqual(all_told(other), all_told(yard))

    def test_what_is_no_text(self):
        for bad in (None, 0, 7, True, [YARD], (YARD,), {}, YARD.encode(), Yard(Table(Land(1, [])))):
            self.refused(bad)

    def test_without_rooms(self):
        for bad in ("", " ", "\n", LINE, "places 1", "rooms", "rooms 1", "rooms\nrooms", "\nrooms", "rooms\nplaces 1",
                    "rooms 1\nrooms", "places\nrooms", "1\nrooms", "rooms 1 1 1\n" + LINE, LINE + "\npost 0 2 1 0"):
            with self.subTest(bad=bad):
                self.refused(bad)

    def test_rooms_that_are_none(self):
        for bad in ("rooms", "rooms 1", "rooms 1 1", "rooms 1 1 1 1", "rooms 0 1 1", "rooms 1 61 1", "rooms 1 1 -1",
                    "rooms 1 1 01", "rooms 1 1 x", "rooms 1 1 1 ", "rooms  1 1 1", " rooms 1 1 1", "rooms 1 1 ",
                    "room 1 1 1", "Rooms 1 1 1", "rooms 1,1,1", "rooms 1 1 " + "1" * 61, "roomsx 1 1 1", "rooms\t1 1 1",
                    "rooms 1 1 1\nrooms 1 1 1"):
            with self.subTest(bad=bad):
                self.refused(LINE + "\n" + bad)
        self.assertEqual(read_yard(LINE + "\nrooms 1 1 1").posted(), 0)

    def test_rows_that_are_none(self):
        yard = LINE + "\nrooms 2 2 2\npost 0 2 2 0\nin 0 0"
        self.assertEqual(read_yard(yard + "\nin 0 0").lane_told(0), (0, 0, None, [(0, 0), (0, 1)]))
        for bad in ("", " ", "in", "in 0", "in 0 0 0", "in 0 2", "in 1 0", "in -1 0", "in 00 0", "in 0 00", "in 0 0 ",
                    " in 0 0", "in  0 0", "In 0 0", "in 0 x", "in 0 -0", "on 0", "on 0 1 1", "on 0 2", "on 1 0",
                    "on -3 1",
                    "on 0 -2", "on 00 1", "lie", "lie 0", "lie 0 0", "lie -1", "back", "back 0", "back 0 0", "back -1",
                    "post", "post 0 2 1", "post 0 2 1 0 0", "post 0 2 1 -0", "post 0 2 1 00", "post 0 2 01 0",
                    "post 0 2 0 0", "post 0 2 61 0", "post 0 3 1 0", "post 3 0 1 0", "post -1 2 1 0", "post 0 0 1 0",
                    "post 1 2 1 0", "post 0 2 1 x", "post 0 2 1 +1", "post 0 2 1 --1", "post 0 2 1 " + str(GREAT),
                    "post 0 2 1 " + str(-GREAT), "post 0 2 1 " + "1" * 5000, "post 0 2 1 ", "post 0 2 1 0 ", "look",
                    "do in 0 0", "moves", "rooms 2 2 2", "way 0 1 - 0", "lane 0 1", "places 3", "in 0 " + "0" * 61,
                    "lie " + "1" * 61):
            with self.subTest(bad=bad):
                self.refused(yard + "\n" + bad)
                self.refused(yard + "\n" + bad + "\nin 0 0")

    def test_sixty_letters_and_the_next_one(self):
        text = LINE + "\nrooms 1 1 1" + "\npost 0 2 1 0" * 60
        self.assertEqual(read_yard(text).posted(), 60)
        self.refused(text + "\npost 0 2 1 0")

    def test_a_table_that_is_none(self):
        for bad in (LINE.replace("way 0 1 - 0 2", "way 0 1 - 2 0"), LINE.replace("places 3", "places 2"), LINE + "\n",
                    LINE.replace("lane 1 2", "lane 1 1"), LINE + "\nway 1 2 2 1", LINE.replace("places 3\n", "")):
            self.refused(YARD.replace(LINE, bad))

    def test_rows_exchanged_told_twice_or_left_out(self):
        rows = YARD.split("\n")
        seen = 0
        for at in range(len(rows)):
            for other in range(len(rows)):
                turned = list(rows)
                turned[at], turned[other] = rows[other], rows[at]
                for changed in (turned, rows[:at] + [rows[other]] + rows[at:], rows[:at] + rows[at + 1:]):
                    text = "\n".join(changed)
                    try:
                        yard = read_yard(text)
                    except NoText:
                        continue
                    seen += text != YARD
                    self.assertEqual(yard_shown(yard), text)
        self.assertGreater(seen, 5)

    def test_a_row_that_can_not_be_done_in_its_turn(self):
        for early, late in (("in 0 0\non 0 1", "on 0 1\nin 0 0"), ("on 0 1\nback 0", "back 0\non 0 1"),
                            ("back 0\nin 0 0", "in 0 0\nback 0"), ("post 0 1 3 0\nin 1 2", "in 1 2\npost 0 1 3 0"),
                            ("on 0 1\nlie 1", "lie 1\non 0 1"), ("lie 1\nback 1", "lie 1\nback 1\nback 1\nback 1")):
            self.assertEqual(YARD.count(early), 1)
            self.refused(YARD.replace(early, late))

    def test_blanks_and_line_feeds(self):
        for bad in (YARD + "\n", "\n" + YARD, YARD + " ", " " + YARD, YARD.replace("\n", "\n\n", 1), YARD + "\n\n",
                    YARD.replace("\n", " \n"), YARD.replace("\n", "\r\n"), YARD.replace(" ", "  "), YARD + "\r",
                    YARD.replace("rooms", "\nrooms"), YARD.replace("rooms 1 60 2", "rooms 1 60 2\n")):
            self.refused(bad)

    def test_a_sign_more_less_or_changed(self):
        read = 0
        for at in range(len(YARD) + 1):
            for sign in "0126- \nox":
                for end in (at, at + 1):
                    for changed in (YARD[:at] + sign + YARD[end:], YARD[:at] + YARD[end:]):
                        try:
                            yard = read_yard(changed)
                        except NoText:
                            continue
                        read += 1
                        self.assertEqual(yard_shown(yard), changed)
        self.assertGreater(read, 20)

    def test_yards_without_lanes_and_letters(self):
        for places in range(1, 13):
            text = f"places {places}\nrooms"
            self.assertEqual(yard_text(read_yard(text)), text)
            self.refused(text + " ")
            self.refused(text + " 1")


class TestNothingInCommon(unittest.TestCase):
    def test_what_is_done_to_one_changes_nothing_of_the_other(self):
        yard = some_yard(random.Random(5), Told(Land(4, CIRCLE), [(0, 1, None, [0])]), 3, 3, 2)
        other = read_yard(yard_text(yard))
        before = all_told(yard)
        run(other, lambda moves: 0, 100)
        self.assertEqual(all_told(yard), before)
        one, two = read_yard(YARD), read_yard(YARD)
        before = all_told(one)
        run(two, lambda moves: 1, 100)
        self.assertEqual(all_told(one), before)
        self.assertEqual(all_told(read_yard(YARD)), before)


if __name__ == "__main__":
    unittest.main()
