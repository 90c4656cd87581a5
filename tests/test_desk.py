"""Promises [43] and [44], and [2] as far as it goes."""

import random
import unittest

from wormyard.bits import set_of
from wormyard.desk import Desk
from wormyard.errors import (Full, NoLength, NoMove, NoPlace, NoPlaces, NoRoad, NoRooms, NoRow, NoWay, TooMany,
                             YardError)
from wormyard.lands import Land
from wormyard.less import Less
from wormyard.looks import look
from wormyard.makers import Loop, Nearer, RowFirst, Tree
from wormyard.runs import run
from wormyard.stands import still, waits
from wormyard.yards import Yard

GREAT = 10 ** 60
CIRCLE_ROW = "land 3 0-1 1-2 2-0"


def answers(desk, *rows):
    return [desk.say(row) for row in rows]


def desk_of(*rows):
    desk = Desk()
    answers(desk, *rows)
    return desk


def numbered(desk, word):
    """The answers of the rows lane 0, lane 1 .. or lying 0, lying 1 .. as far as there are such."""
    found = []
    try:
        while True:
            found.append(desk.say(f"{word} {len(found)}"))
    except NoRow:
        return found


def desk_told(desk):
    """All that a desk tells; of one without a table nothing."""
    try:
        return answers(desk, "look", "moves", "still", "waits") + [numbered(desk, "lane"), numbered(desk, "lying")]
    except NoRow:
        return None


def move_text(move):
    return " ".join(str(thing) for thing in move)


def told_by(yard):
    """What a desk with this yard is to tell, by the words of the interface."""
    table = yard.table
    word, what = look(table)
    if word == "lost":
        looked = "lost {} {}".format(*what)
    elif word == "ring":
        looked = "ring " + " ".join("{}-{}".format(*pair) for pair in what)
    else:
        looked = "".join(["paper"] + [f" {number}" for number in what[0]])
    rows = [f"{lane}:" + (",".join(str(other) for other in wanted) if wanted else "-") for lane, wanted in waits(yard)]
    lanes = []
    for lane in range(len(table.land.lanes)):
        rights, back, holder, pieces = yard.lane_told(lane)
        lanes.append(f"{rights} {back} {'-' if holder is None else holder}"
                     + "".join(f" {letter}.{count}" for letter, count in pieces))
    lying = [" ".join(f"{letter}.{count}" for letter, count in yard.lying(place)) or "none"
             for place in range(table.land.places)]
    return [looked, "; ".join(move_text(move) for move in yard.moves()) or "none", "yes" if still(yard) else "no",
            " ".join(rows) or "none", lanes, lying]


class DeskCase(unittest.TestCase):
    def assert_refused(self, desk, row, error=NoRow):
        before = desk_told(desk)
        with self.assertRaises(YardError) as caught:
            desk.say(row)
        self.assertIs(type(caught.exception), error, row)
        self.assertEqual(desk_told(desk), before)
        return caught.exception


class TestMaking(DeskCase):
    def test_tables(self):
        for row, table in (("rowfirst 3 2", RowFirst(3, 2)), ("rowfirst 1 1", RowFirst(1, 1)), ("loop 2", Loop(2)),
                           ("loop 12", Loop(12)), ("tree", Tree([])), ("tree 0", Tree([0])),
                           ("tree 0 1 1", Tree([0, 1, 1])),
                           ("land 1", Nearer(Land(1, []))), ("land 12 11-0", Nearer(Land(12, [(11, 0)]))),
                           (CIRCLE_ROW, Nearer(Land(3, [(0, 1), (1, 2), (2, 0)]))),
                           ("land 2" + " 0-1" * 40, Nearer(Land(2, [(0, 1)] * 40)))):
            desk = Desk()
            self.assertEqual(desk.say(row), "ok")
            self.assertEqual(desk_told(desk), told_by(Yard(table)))

    def test_by_hand(self):
        self.assertEqual(desk_told(desk_of("rowfirst 2 1")),
                         ["paper 0 0", "none", "no", "none", ["1 0 -", "1 0 -"], ["none", "none"]])
        self.assertEqual(desk_told(desk_of("land 1")), ["paper", "none", "no", "none", [], ["none"]])

    def test_refused_as_the_deed_is(self):
        for desk in (Desk(), desk_of("loop 3", "post 0 2 2 5", "do in 0 0")):
            for row in ("rowfirst 0 1", "rowfirst 1 0", "rowfirst 13 1", "rowfirst 4 4", "loop 0", "loop 1", "loop 13",
                        "tree 1", "tree 0 2", "tree 0 0 3", "tree" + " 0" * 12, "land 0", "land 13", "land 0 0-1",
                        "land 13 5-5", "rowfirst " + "9" * 60 + " 1", "loop " + "9" * 60, "tree " + "9" * 60,
                        "land " + "9" * 60, "land 13" + " 0-1" * 41):
                with self.subTest(row=row):
                    self.assert_refused(desk, row, NoPlaces)
            self.assertEqual(self.assert_refused(desk, "land 2" + " 0-1" * 41, TooMany).many, 41)
            self.assertEqual(self.assert_refused(desk, "land 2" + " 5-5" * 50, TooMany).many, 50)
            self.assertEqual(self.assert_refused(desk, "land 2 0-1 1-1 0-2", NoRoad).lane, 1)
            self.assertEqual(self.assert_refused(desk, "land 2 0-2", NoRoad).lane, 0)
            self.assertEqual(self.assert_refused(desk, "land 2 0-1 1-0 " + "9" * 60 + "-0", NoRoad).lane, 2)

    def test_a_row_that_makes_a_table_begins_a_new_yard(self):
        for row in ("loop 3", "rowfirst 3 1", "tree 0 0", CIRCLE_ROW, "land 3"):
            desk = desk_of("loop 3", "rooms 2 2 2 2 2 2", "post 0 2 2 5", "run 0 3")
            self.assertEqual(desk.say(row), "ok")
            self.assertEqual(desk_told(desk), desk_told(desk_of(row)))
            self.assertEqual(desk.say("moves"), "none")
            self.assertTrue(all(told == "1 0 -" for told in numbered(desk, "lane")))
            self.assert_refused(desk, "do in 0 0")


class TestOut(DeskCase):
    def test_by_hand(self):
        self.assertEqual(answers(desk_of("rowfirst 2 1"), "out 0", "look"), ["cut 0-1", "paper 0 0"])
        self.assertEqual(desk_of("rowfirst 3 2").say("out 0 2"), "cut 0-1 0-2 0-4 0-5 1-2 1-5")
        self.assertEqual(desk_of("land 2 0-1 0-1").say("out 1"), "cut")
        self.assertEqual(desk_of("land 2 0-1 0-1").say("out 1 0 1"), "cut 0-1")
        self.assertEqual(answers(desk_of(CIRCLE_ROW), "out 0", "look"), ["cut 0-1 0-2 2-1", "paper 0 0 1"])

    def test_one_behind_the_other(self):
        desk = desk_of("tree 0 0")
        self.assertEqual(answers(desk, "out 1", "out 1", "out 3", "out 0 2"),
                         ["cut 0-1 2-1", "cut", "cut 0-2 1-2", "cut 1-0 2-0"])
        self.assertEqual(desk.say("look"), "paper 0 0 0 0")
        error = self.assert_refused(desk, "post 0 1 1 0", NoWay)
        self.assertEqual((error.start, error.goal), (0, 1))

    def test_a_new_yard(self):
        desk = desk_of("loop 3", "rooms 2 2 2 2 2 2", "post 0 2 2 5", "run 0 2")
        self.assertEqual(desk.say("out 5"), "cut")
        self.assertEqual(desk_told(desk), told_by(Yard(Less(Loop(3), 32))))
        self.assertEqual(numbered(desk, "lane"), ["1 0 -"] * 6)
        self.assert_refused(desk, "do in 0 0")

    def test_against_less(self):
        chance = random.Random(1)
        for row, table in (("rowfirst 4 3", RowFirst(4, 3)), ("loop 5", Loop(5)), ("tree 0 1 1 0", Tree([0, 1, 1, 0])),
                           ("land 4 0-1 1-2 2-3 3-0 0-2", Nearer(Land(4, [(0, 1), (1, 2), (2, 3), (3, 0), (0, 2)])))):
            desk = desk_of(row)
            for again in range(4):
                lanes = [chance.randrange(len(table.land.lanes)) for number in range(chance.randint(1, 3))]
                table = Less(table, set_of(lanes))
                told = desk.say("out " + " ".join(str(lane) for lane in lanes))
                self.assertEqual(told, "".join(["cut"] + [f" {place}-{goal}" for place, goal in table.cut_off()]))
                self.assertEqual(desk_told(desk), told_by(Yard(table)))

    def test_ever_so_often(self):
        desk = desk_of("rowfirst 3 2")
        for again in range(1200):
            desk.say("out 0 2")
        self.assertEqual(desk.say("post 1 0 1 0"), "0")
        self.assertEqual(desk.say("run 0 9"), "3")


class TestRooms(DeskCase):
    def test_a_new_yard_of_the_same_table(self):
        desk = desk_of("tree 0 0", "out 1", "post 1 2 3 0", "run 0 2")
        self.assertEqual(desk.say("rooms 1 2 3 60"), "ok")
        self.assertEqual(desk_told(desk), told_by(Yard(Less(Tree([0, 0]), 2), [1, 2, 3, 60])))
        self.assertEqual(numbered(desk, "lane"), ["1 0 -", "2 0 -", "3 0 -", "60 0 -"])
        self.assert_refused(desk, "do in 0 0")
        self.assertEqual(desk_of("land 3").say("rooms"), "ok")

    def test_no_rooms(self):
        desk = desk_of("tree 0 0", "post 1 2 3 0", "run 0 2")
        for row in ("rooms", "rooms 1", "rooms 1 1 1", "rooms 1 1 1 1 1", "rooms 0 1 1 1", "rooms 1 1 1 61", "rooms 0",
                    "rooms 1 1 1 " + "9" * 60):
            self.assert_refused(desk, row, NoRooms)
        self.assert_refused(desk_of("land 3"), "rooms 1", NoRooms)


class TestLook(DeskCase):
    def test_each_of_the_three(self):
        self.assertEqual(desk_of("loop 3").say("look"), "paper 0 1 2 3 0 0")
        word, ring = look(Nearer(Land(3, [(0, 1), (1, 2), (2, 0)])))
        self.assertEqual(desk_of(CIRCLE_ROW).say("look"), "ring " + " ".join(f"{lane}-{goal}" for lane, goal in ring))
        self.assertEqual(desk_of("tree").say("look"), "paper")

    def test_lost(self):
        # No row makes a table with a lost pair, so one is put to the desk from beneath.
        class Lost(Nearer):
            def ways(self, place, goal, came):
                return Nearer.ways(self, place, goal, came) if came is None else []

        desk = desk_of("land 3 0-1 1-2")
        desk.yard = Yard(Lost(Land(3, [(0, 1), (1, 2)])))
        self.assertEqual(desk.say("look"), "lost 0 2")


class TestLetters(DeskCase):
    def test_post(self):
        desk = desk_of("loop 3")
        rows = ["post 0 2 2 0", "post 2 1 60 -5", "post 1 0 1 " + "9" * 60, "post 1 2 1 -" + "9" * 60]
        self.assertEqual(answers(desk, *rows), ["0", "1", "2", "3"])
        self.assertEqual(desk.say("moves"), "in 0 0; in 1 2; in 2 1; in 3 1")

    def test_post_refused_as_the_deed_is(self):
        desk = desk_of("tree 0 0", "out 1", "post 0 2 2 7")
        for row in ("post 3 0 1 0", "post 0 3 1 0", "post 12 12 1 0", "post " + "9" * 60 + " 0 1 0", "post 3 0 0 0"):
            self.assert_refused(desk, row, NoPlace)
        for row in ("post 0 2 0 0", "post 0 2 61 0", "post 0 0 61 0", "post 0 1 " + "9" * 60 + " 0"):
            self.assert_refused(desk, row, NoLength)
        for row, pair in (("post 0 0 1 0", (0, 0)), ("post 0 1 1 5", (0, 1)), ("post 2 1 60 -5", (2, 1))):
            error = self.assert_refused(desk, row, NoWay)
            self.assertEqual((error.start, error.goal), pair)
        for number in range(1, 60):
            self.assertEqual(desk.say("post 0 2 1 0"), str(number))
        self.assert_refused(desk, "post 0 2 1 0", Full)
        self.assert_refused(desk, "post 0 1 1 0", NoWay)
        self.assert_refused(desk, "post 0 2 1 " + "9" * 61)

    def test_do(self):
        desk = desk_of("rowfirst 3 1", "rooms 2 1 1 1", "post 0 2 2 0")
        self.assertEqual(answers(desk, "do in 0 0", "do on 0 1", "do in 0 0", "do back 0", "do lie 1", "do back 1"),
                         ["ok"] * 6)
        self.assertEqual(answers(desk, "do on 0 1", "do lie 1"), ["ok", "ok"])
        self.assertEqual(answers(desk, "moves", "lying 2", "lane 0", "lane 1", "still", "waits"),
                         ["back 0; back 1", "0.0 0.1", "1 1 -", "0 1 -", "no", "none"])

    def test_do_refused(self):
        desk = desk_of("rowfirst 3 1", "rooms 2 1 1 1", "post 0 2 2 0", "do in 0 0")
        for row in ("do in 0 1", "do in 0 3", "do on 0 0", "do on 0 2", "do on 1 0", "do lie 0", "do lie 3",
                    "do back 0", "do back 3", "do on 3 3"):
            self.assert_refused(desk, row, NoMove)
        for row in ("do", "do ", "do in", "do in 0", "do in 0 0 0", "do on 0", "do on 0 1 1", "do lie", "do lie 0 0",
                    "do back", "do back 0 0", "do in 1 0", "do in 0 4", "do on 0 4", "do on 4 0", "do lie 4",
                    "do back 4", "do look", "do do in 0 0", "do post 0 2 2 0", "do in 00 0", "do in 0 00", "do in -0 0",
                    "do in 0 -1",
                    "do x 0", "do  in 0 0", "do in 0 0 ", "do in a b", "do in " + "9" * 60 + " 0", "do in,0 0",
                    "do in " + "9" * 61 + " 0", "in 0 0", "lie 1", "back 0", "on 0 1", "Do in 0 0", "do In 0 0",
                    "do ('in', 0, 0)"):
            with self.subTest(row=row):
                self.assert_refused(desk, row)
        self.assertEqual(desk.say("do in 0 0"), "ok")

    def test_waits_and_still(self):
        desk = desk_of(CIRCLE_ROW, "post 0 2 1 0", "post 1 0 1 0", "post 2 1 1 0")
        self.assertEqual(answers(desk, "waits", "still"), ["none", "no"])
        self.assertEqual(answers(desk, "do in 0 0", "waits", "do in 1 1", "waits"), ["ok", "0:1", "ok", "0:1 1:2"])
        self.assertEqual(answers(desk, "do in 2 2", "waits", "still", "moves"), ["ok", "0:1 1:2 2:0", "yes", "none"])
        desk = desk_of("land 4 0-1 1-2 1-2 2-3", "post 0 3 1 0", "do in 0 0")
        self.assertEqual(answers(desk, "waits", "do on 0 2", "waits", "do on 2 3", "waits"),
                         ["0:1,2", "ok", "2:3", "ok", "3:-"])

    def test_lane_and_lying(self):
        desk = desk_of("rowfirst 2 1", "rooms 3 3", "post 0 1 2 0", "post 0 1 3 0", "do in 0 0", "do in 0 0",
                       "do in 1 0")
        self.assertEqual(desk.say("lane 0"), "0 0 1 0.0 0.1 1.0")
        self.assertEqual(answers(desk, "do lie 0", "do lie 0", "do back 0", "lane 0", "lying 1", "lying 0"),
                         ["ok", "ok", "ok", "1 1 1 1.0", "0.0 0.1", "none"])
        self.assertEqual(desk.say("lane 1"), "3 0 -")


class TestRun(DeskCase):
    def test_by_hand(self):
        desk = desk_of("rowfirst 2 1", "post 0 1 2 0")
        self.assertEqual(answers(desk, "run 0 0", "run 0 1", "run 5 2", "run 0 100", "run 0 100", "run 0 0"),
                         ["0", "1", "2", "3", "0", "0"])
        self.assertEqual(desk.say("lying 1"), "0.0 0.1")

    def test_against_a_run(self):
        chance = random.Random(2)
        circle = Nearer(Land(3, [(0, 1), (1, 2), (2, 0)]))
        for row, table in (("rowfirst 3 2", RowFirst(3, 2)), ("loop 4", Loop(4)), (CIRCLE_ROW, circle)):
            for again in range(10):
                desk, yard = desk_of(row), Yard(table)
                for number in range(6):
                    start, goal = chance.sample(range(table.land.places), 2)
                    length = chance.randint(1, 5)
                    posted = yard.post(start, goal, length, -number)
                    self.assertEqual(desk.say(f"post {start} {goal} {length} {-number}"), str(posted))
                for pick in (0, 1, 7, 10 ** 59, GREAT - 1):
                    most = chance.choice([0, 1, 3, 10])
                    self.assertEqual(desk.say(f"run {pick} {most}"), str(len(run(yard, lambda moves: pick, most))))
                    self.assertEqual(desk_told(desk), told_by(yard))
                self.assertEqual(desk.say(f"run 3 {GREAT - 1}"), str(len(run(yard, lambda moves: 3, GREAT))))
                self.assertEqual(desk_told(desk), told_by(yard))


WRONG = ["", " ", "  ", "\n", "x", "rowfirst", "rowfirst 3", "rowfirst 3 2 1", "rowfirst 3  2", "rowfirst 3 2 ",
         " rowfirst 3 2", "rowfirst 03 2", "rowfirst 3 02", "rowfirst -3 2", "rowfirst 3 -2", "rowfirst +3 2",
         "rowfirst 3.0 2", "rowfirst a 2", "Rowfirst 3 2", "ROWFIRST 3 2", "rowfirst,3,2", "rowfirst 3-2",
         "rowfirst 3 2\n", "rowfirst\t3 2", "row 3 2", "rowfirst " + "1" * 61 + " 1", "rowfirst " + "1" * 5000 + " 1",
         "rowfirst 1 " + "0" * 61, "loop", "loop ", "loop 3 3", "loop 03", "loop -3", "loop x", "loop  3", "loop 3 ",
         "loop " + "1" * 61, "loop None", "tree ", "tree  0", "tree 0 ", "tree 0  0", "tree x", "tree 00", "tree -0",
         "tree -1", "tree 0-1", "tree " + "0" * 61, "tree 1 x", "tree" + " 0" * 12 + " x", "tree 0\n0", "land",
         "land ", "land x", "land 03", "land -3", "land 3 ", "land 3  0-1", "land 3 0", "land 3 0-", "land 3 -1",
         "land 3 -", "land 3 0-1-2", "land 3 0--1", "land 3 00-1", "land 3 0-01", "land 3 0 - 1", "land 3 0-1 ",
         "land 3 0-1 x", "land 3 a-b", "land 3 0_1", "land 3 0,1", "land 3 0-" + "1" * 61,
         "land 3 " + "1" * 61 + "-0", "land " + "1" * 61, "land 3 -0-1", "land 0 x", "land 13 0-",
         "land 2" + " 0-1" * 41 + " x"]
NEED_TABLE = ["look ", "look 0", " look", "looks", "Look", "look\n", "out", "out ", "out x", "out -1", "out 00",
              "out 6", "out 0 6", "out 6 0", "out 0 ", "out 0  1", "out 0,1", "out " + "1" * 60, "out " + "1" * 61,
              "out 0-1", "rooms ", "rooms x", "rooms 01", "rooms -1", "rooms 1 1 1 1 1 x", "rooms 1 1 1 1 1 1 ",
              "rooms  1 1 1 1 1 1", "rooms " + "1" * 61, "room 1", "rooms 1,1", "post", "post 0", "post 0 1",
              "post 0 1 1", "post 0 1 1 0 0", "post 0 1 1 ", "post 0 1 1 0 ", "post 0 1 1 -0", "post 0 1 1 00",
              "post 0 1 1 -01", "post 0 1 1 --1", "post 0 1 1 -", "post 0 1 1 +1", "post 0 1 1 x", "post 0 1 1 1.5",
              "post 00 1 1 0", "post 0 01 1 0", "post 0 1 01 0", "post -1 1 1 0", "post 0 -1 1 0", "post 0 1 -1 0",
              "post 0 1 1 " + "1" * 61, "post 0 1 1 -" + "1" * 61, "post 0 1 1 " + "1" * 5000,
              "post 0 1 " + "1" * 61 + " 0", "post " + "1" * 61 + " 1 1 0", "post 9 9 99 x", "post  0 1 1 0",
              "moves ", "moves 0", "move", "moves none", "run", "run 0", "run 0 1 2", "run -1 1", "run 0 -1",
              "run 00 1", "run 0 01", "run x 1", "run 0 x", "run 0 1 ", "run  0 1", "run 0 " + "1" * 61,
              "run " + "1" * 61 + " 0", "lane", "lane ", "lane 6", "lane -1", "lane 00", "lane 0 1", "lane 0 ",
              "lane x", "lane " + "1" * 60, "lane " + "1" * 61, "lane 01", "lying", "lying ", "lying 3", "lying -1",
              "lying 00", "lying 0 0", "lying x", "lying 0 ", "lying " + "1" * 60, "lying " + "1" * 61, "still ",
              "still 0", "stil", "waits ", "waits 0", "wait", "ended", "history", "twin", "search 5", "ok",
              "places 3", "way 0 1 - 0", "letter 0"]
GOOD = ["look", "out 5", "rooms 1 1 1 1 1 1", "rooms", "post 0 1 1 0", "moves", "do in 0 0", "do lie 0", "do back 0",
        "do on 0 1", "run 0 1", "lane 0", "lying 0", "still", "waits"]


class TestNoRow(DeskCase):
    def test_rows_that_are_none(self):
        for desk in (Desk(), desk_of("loop 3"),
                     desk_of("loop 3", "rooms 2 1 2 1 2 1", "post 0 2 3 0", "post 1 0 2 5", "run 2 4")):
            for row in WRONG + NEED_TABLE:
                with self.subTest(row=row):
                    self.assert_refused(desk, row)

    def test_what_is_no_text(self):
        for desk in (Desk(), desk_of("loop 3", "post 0 2 3 0")):
            for row in (None, 0, 7, True, ["look"], ("look",), {}, b"look", b"loop 3", Loop(3)):
                self.assert_refused(desk, row)

    def test_without_a_table(self):
        desk = Desk()
        for row in GOOD + ["do in 5 5", "rooms 0", "post 9 9 99 0"]:
            self.assert_refused(desk, row)
        self.assertEqual(desk.say("loop 3"), "ok")
        self.assertEqual(desk.say("look"), "paper 0 1 2 3 0 0")

    def test_without_a_table_behind_a_row_that_was_refused(self):
        desk = Desk()
        self.assert_refused(desk, "loop 1", NoPlaces)
        self.assert_refused(desk, "land 2 0-5", NoRoad)
        for row in GOOD:
            self.assert_refused(desk, row)

    def test_no_row_comes_ahead_of_the_deeds_own_refusal(self):
        desk = desk_of("loop 3", "post 0 2 3 0")
        for row in ("post 9 9 99 " + "1" * 61, "rooms 0 x", "loop 1 x", "rowfirst 0 x", "land 0 0", "do in 0 9",
                    "do in 9 0", "tree 5 -", "land 2 0-9 x"):
            self.assert_refused(desk, row)

    def test_names_are_those_of_the_table_that_is_there(self):
        desk = desk_of("loop 4")
        self.assertEqual(answers(desk, "lane 7", "lying 3"), ["1 0 -", "none"])
        desk.say("rowfirst 2 1")
        self.assertEqual(answers(desk, "lane 1", "lying 1"), ["1 0 -", "none"])
        for row in ("lane 2", "lying 2", "out 2", "do lie 2", "do back 7", "do on 0 2", "do in 0 0"):
            self.assert_refused(desk, row)
        self.assertEqual(desk.say("post 0 1 1 0"), "0")
        self.assert_refused(desk, "do in 0 1", NoMove)
        self.assert_refused(desk, "do in 1 0")

    def test_a_table_without_lanes(self):
        desk = desk_of("land 2")
        for row in ("lane 0", "out 0", "do lie 0", "do back 0", "do on 0 0", "do in 0 0", "lying 2"):
            self.assert_refused(desk, row)
        self.assert_refused(desk, "post 0 1 1 0", NoWay)
        self.assertEqual(answers(desk, "lying 1", "rooms", "moves", "run 0 5"), ["none", "ok", "none", "0"])


class TestManyRows(DeskCase):
    def some_row(self, chance, yard):
        lanes, places = len(yard.table.land.lanes), yard.table.land.places
        kind = chance.choice(["post", "post", "do", "do", "do", "do", "run", "any move", "rooms", "out"])
        if kind == "post":
            start, goal = chance.randrange(places + 1), chance.randrange(places)
            return "post", [start, goal, chance.randrange(5), chance.randint(-9, 9)]
        if kind == "do" and yard.moves():
            return "do", list(chance.choice(yard.moves()))
        if kind == "any move" and yard.posted() and lanes:
            return "do", chance.choice([["in", chance.randrange(yard.posted()), chance.randrange(lanes)],
                                        ["on", chance.randrange(lanes), chance.randrange(lanes)],
                                        ["lie", chance.randrange(lanes)], ["back", chance.randrange(lanes)]])
        if kind == "rooms" and chance.randrange(6) == 0:
            return "rooms", [chance.randrange(5) for lane in range(lanes)]
        if kind == "out" and chance.randrange(6) == 0 and lanes:
            return "out", [chance.randrange(lanes)]
        return "run", [chance.randrange(99), chance.randrange(4)]

    def done(self, yard, word, values):
        """The yard and the answer that the deed makes."""
        if word == "post":
            return yard, str(yard.post(*values))
        if word == "do":
            return yard, yard.do(tuple(values)) or "ok"
        if word == "rooms":
            return Yard(yard.table, values), "ok"
        if word == "out":
            less = Less(yard.table, set_of(values))
            return Yard(less), "".join(["cut"] + [f" {place}-{goal}" for place, goal in less.cut_off()])
        return yard, str(len(run(yard, lambda moves: values[0], values[1])))

    def test_against_the_yard_that_the_same_deeds_make(self):
        chance = random.Random(3)
        refused = {}
        land = Land(4, [(0, 1), (1, 2), (2, 0), (2, 3), (3, 0)])
        for row, table in (("rowfirst 3 2", RowFirst(3, 2)), ("rowfirst 1 1", RowFirst(1, 1)), ("loop 4", Loop(4)),
                           ("tree", Tree([])), ("tree 0 0 1", Tree([0, 0, 1])),
                           ("land 4 0-1 1-2 2-0 2-3 3-0", Nearer(land))) * 4:
            desk, yard = desk_of(row), Yard(table)
            for step in range(60):
                word, values = self.some_row(chance, yard)
                said = " ".join([word] + [str(value) for value in values])
                try:
                    yard, answer = self.done(yard, word, values)
                except YardError as error:
                    refused[type(error)] = refused.get(type(error), 0) + 1
                    told = self.assert_refused(desk, said, type(error))
                    self.assertEqual(vars(told), vars(error))
                else:
                    self.assertEqual(desk.say(said), answer)
                self.assertEqual(desk_told(desk), told_by(yard))
        self.assertTrue({NoPlace, NoLength, NoWay, NoMove, NoRooms} <= set(refused))

    def test_two_desks_have_nothing_in_common(self):
        one, other = desk_of("loop 3", "post 0 2 3 0"), desk_of("loop 3")
        before = desk_told(other)
        answers(one, "run 0 5", "out 1", "rowfirst 2 2")
        self.assertEqual(desk_told(other), before)

    def test_answers_are_texts(self):
        desk = Desk()
        for row in ["loop 3"] + [row for row in GOOD if row not in ("rooms", "do on 0 1")]:
            self.assertIs(type(desk.say(row)), str)


if __name__ == "__main__":
    unittest.main()
