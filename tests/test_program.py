"""The whole program: promises [2] and [3], and that the interface is there as it stands."""

import importlib
import inspect
import random
import unittest

from samples import all_tables, all_told, all_ways, nearer_tables, ruled_tables, some_yard, told_tables
from wormyard import errors
from wormyard.desk import Desk
from wormyard.lands import Land
from wormyard.lanes import Lane
from wormyard.less import Less
from wormyard.looks import look
from wormyard.makers import Loop, Nearer, RowFirst, Tree
from wormyard.met import met, starts, way_to
from wormyard.papers import fault
from wormyard.runs import most_moves, run
from wormyard.stands import search, still
from wormyard.tables import Table, Told
from wormyard.texts import read_table, read_yard, yard_text
from wormyard.yards import Yard

FUNCTIONS = {
    "bits": {"has": "some number", "members": "some", "set_of": "numbers"},
    "met": {"starts": "table", "met": "table", "lost": "table", "way_to": "table lane goal"},
    "papers": {"fault": "table paper"},
    "looks": {"look": "table"},
    "runs": {"run": "yard pick most", "most_moves": "yard"},
    "stands": {"still": "yard", "waits": "yard", "stand_of": "table rooms ring", "search": "yard most"},
    "texts": {"table_text": "table", "yard_text": "yard", "read_table": "text", "read_yard": "text"},
}
TABLE = {"ways": "place goal came"}
CLASSES = {
    "lands": {"Land": ("places lanes", {"start_of": "lane", "end_of": "lane", "out_of": "place", "into": "place"})},
    "tables": {"Table": ("land", TABLE), "Told": ("land rows", TABLE)},
    "makers": {"RowFirst": ("wide high", TABLE), "Loop": ("many", TABLE), "Tree": ("parents", TABLE),
               "Nearer": ("land", TABLE)},
    "lanes": {"Lane": ("room", {"open_to": "letter count", "put": "letter count last", "front": "", "pull": "",
                                "bring": "", "told": ""})},
    "yards": {"Yard": ("table rooms=None", {
        "post": "start goal length word=0", "moves": "", "do": "move", "ended": "", "lane_told": "lane",
        "letter_told": "number", "way_told": "number", "lying": "place", "history": "", "posted": "", "twin": ""})},
    "less": {"Less": ("table out", {"ways": "place goal came", "cut_off": ""})},
    "desk": {"Desk": ("", {"say": "row"})},
}


def arguments(called):
    parameters = list(inspect.signature(called).parameters.values())
    return " ".join(str(parameter) for parameter in parameters if parameter.name != "self")


class TestInterface(unittest.TestCase):
    def test_functions(self):
        for module, functions in FUNCTIONS.items():
            for name, wanted in functions.items():
                called = getattr(importlib.import_module("wormyard." + module), name)
                self.assertEqual(arguments(called), wanted, name)

    def test_classes_and_methods(self):
        for module, classes in CLASSES.items():
            for name, (wanted, methods) in classes.items():
                owner = getattr(importlib.import_module("wormyard." + module), name)
                self.assertEqual(arguments(owner.__init__), wanted, name)
                for method, values in methods.items():
                    self.assertEqual(arguments(getattr(owner, method)), values, (name, method))

    def test_tables_stand_under_table(self):
        for owner in (Told, RowFirst, Loop, Tree, Nearer, Less):
            self.assertEqual(owner.__bases__, (Table,))

    def test_values(self):
        land = Land(2, [(0, 1)])
        self.assertEqual((land.places, land.lanes), (2, ((0, 1),)))
        for table in (Table(land), Told(land, []), Nearer(land), Less(Table(land), 0)):
            self.assertIs(table.land, land)
        for table in (RowFirst(2, 1), Loop(2), Tree([0])):
            self.assertEqual(table.land.places, 2)
            self.assertIs(Yard(table).table, table)


def refused():
    """For each class of refusal deeds that are refused with it, and the values that it has."""
    line = Nearer(Land(2, [(0, 1)]))
    full = Yard(line)
    for number in range(60):
        full.post(0, 1, 1)
    return [
        ("NoPlaces", {}, [lambda: Land(0, []), lambda: RowFirst(13, 1), lambda: Loop(1), lambda: Tree([1]),
                          lambda: Desk().say("loop 13")]),
        ("TooMany", {"many": 41}, [lambda: Land(2, [(0, 1)] * 41), lambda: Desk().say("land 2" + " 0-1" * 41)]),
        ("NoRoad", {"lane": 1}, [lambda: Land(2, [(0, 1), (1, 1)]), lambda: Desk().say("land 2 0-1 2-0")]),
        ("NoEntry", {"row": 1}, [lambda: Told(Land(2, [(0, 1)]), [(0, 1, None, [0]), (1, 1, None, [])])]),
        ("NotMet", {}, [lambda: way_to(Table(Land(2, [(0, 1)])), 0, 1)]),
        ("NoRooms", {}, [lambda: Yard(line, [61])]),
        ("NoPlace", {}, [lambda: Yard(line).post(0, 2, 1)]),
        ("NoLength", {}, [lambda: Yard(line).post(0, 1, 0)]),
        ("NoWord", {}, [lambda: Yard(line).post(0, 1, 1, 10 ** 60)]),
        ("NoWay", {"start": 1, "goal": 0}, [lambda: Yard(line).post(1, 0, 1)]),
        ("Full", {}, [lambda: full.post(0, 1, 1)]),
        ("NoMove", {}, [lambda: Yard(line).do(("lie", 0)), lambda: Lane(1).pull(), lambda: Lane(1).bring(),
                        lambda: Lane(1).put(0, 1, True)]),
        ("NoText", {}, [lambda: read_table(""), lambda: read_yard("places 1"), lambda: read_table(None)]),
        ("NoRow", {}, [lambda: Desk().say("look"), lambda: Desk().say(None), lambda: Desk().say("loop 03")]),
    ]


class TestRefusals(unittest.TestCase):
    def test_each_class_with_its_values(self):
        for name, values, deeds in refused():
            for deed in deeds:
                with self.assertRaises(errors.YardError) as caught:
                    deed()
                self.assertIs(type(caught.exception), getattr(errors, name))
                self.assertEqual(vars(caught.exception), values)

    def test_each_stands_under_any_refusal_and_under_none_of_the_others(self):
        names = [name for name, values, deeds in refused()]
        self.assertEqual(len(names), 14)
        for name in names:
            owner = getattr(errors, name)
            self.assertTrue(issubclass(owner, errors.YardError) and issubclass(owner, ValueError))
            for other in names:
                self.assertEqual(issubclass(owner, getattr(errors, other)), name == other)

    def test_any_refusal_is_taken_by_yard_error_and_by_value_error(self):
        for name, values, deeds in refused():
            for taken in (errors.YardError, ValueError):
                with self.assertRaises(taken):
                    deeds[0]()


def pickers(seed):
    """Moves picked in any way: the first, the last, by chance, heads in ahead of all, rights back behind all."""
    chance = random.Random(seed)
    return [lambda moves: 0, lambda moves: -1, lambda moves: chance.randrange(10 ** 6),
            lambda moves: max(range(len(moves)), key=lambda at: (moves[at][0] == "in", chance.random())),
            lambda moves: max(range(len(moves)), key=lambda at: (moves[at][0] != "back", chance.random()))]


def tables_with_papers():
    return [table for table in told_tables() + nearer_tables() + ruled_tables() if look(table)[0] == "paper"]


class TestThePromise(unittest.TestCase):
    def assert_comes_to_its_end(self, yard, pick):
        rooms = [told[0] + told[1] + len(told[3]) for told in all_told(yard)[0][0]]
        while yard.moves():
            run(yard, pick, 50)
        moves = [deed for deed in yard.history() if deed[0] != "post"]
        self.assertLessEqual(len(moves), most_moves(yard))
        self.assertTrue(yard.ended())
        self.assertFalse(still(yard))
        lie = {}
        for place in range(yard.table.land.places):
            for letter, count in yard.lying(place):
                lie.setdefault((letter, place), []).append(count)
        letters = [yard.letter_told(number) for number in range(yard.posted())]
        self.assertEqual(lie, {(number, goal): list(range(length))
                               for number, (start, goal, length, word) in enumerate(letters)})
        for lane, room in enumerate(rooms):
            self.assertEqual(yard.lane_told(lane), (room, 0, None, []))

    def test_tables_with_a_paper_without_fault(self):
        chance = random.Random(1)
        for number, table in enumerate(tables_with_papers()):
            for pick in pickers(number):
                self.assert_comes_to_its_end(some_yard(chance, table, 6, 5, 3), pick)

    def test_what_is_left_of_them(self):
        chance = random.Random(2)
        cut = 0
        for number, table in enumerate(tables_with_papers()):
            less = Less(table, chance.getrandbits(40) & chance.getrandbits(40) & chance.getrandbits(40))
            paper = (look(table)[1][0], met(less))
            self.assertIsNone(fault(less, paper))
            cut += bool(less.cut_off())
            for pick in pickers(number)[2:]:
                self.assert_comes_to_its_end(some_yard(chance, less, 5, 4, 2), pick)
        self.assertGreater(cut, 30)

    def test_tables_and_yards_that_were_read(self):
        chance = random.Random(3)
        for table in tables_with_papers()[::4]:
            yard = some_yard(chance, table, 5, 4, 2)
            run(yard, lambda moves: chance.randrange(99), 9)
            self.assert_comes_to_its_end(read_yard(yard_text(yard)), lambda moves: chance.randrange(99))

    def test_whoever_wrote_the_paper(self):
        """Papers with any numbers and sets: where there is no fault, neither a run nor a search comes to a stand."""
        chance = random.Random(4)
        held = 0
        for table in all_tables():
            lanes = len(table.land.lanes)
            for again in range(6):
                numbers = [chance.randint(-9, 9) for lane in range(lanes)]
                sets = [some | 1 << table.land.end_of(lane) for lane, some in enumerate(met(table))]
                if fault(table, (numbers, sets)) is None:
                    held += 1
                    yard = some_yard(chance, table, 4, 3, 2)
                    self.assertIn(search(yard, 30), (("ends",), ("more",)))
                    self.assert_comes_to_its_end(yard, lambda moves: chance.randrange(99))
        self.assertGreater(held, 100)

    def test_letters_posted_on_the_way(self):
        chance = random.Random(5)
        for table in tables_with_papers()[::3]:
            yard = some_yard(chance, table, 2, 6, 2)
            pairs = starts(table)
            for again in range(20 if pairs else 0):
                run(yard, lambda moves: chance.randrange(99), 3)
                yard.post(*chance.choice(pairs), chance.randint(1, 6))
            self.assert_comes_to_its_end(yard, lambda moves: chance.randrange(99))

    def test_sixty_letters_of_sixty_pieces(self):
        yard = Yard(Loop(3))
        for number in range(60):
            yard.post(number % 3, (number + 1 + number % 2) % 3, 60)
        self.assert_comes_to_its_end(yard, lambda moves: len(moves) // 2)

    def test_in_a_yard_of_any_table_the_told_count_is_not_passed(self):
        chance = random.Random(6)
        for table in all_tables():
            yard = some_yard(chance, table, 8, 4, 3)
            run(yard, lambda moves: chance.randrange(99), 10000)
            self.assertEqual(yard.moves(), [])
            self.assertLessEqual(len(yard.history()) - yard.posted(), most_moves(yard))


class TestDesks(unittest.TestCase):
    def test_moves_picked_in_any_way_lead_to_an_end(self):
        chance = random.Random(7)
        for row, table in (("rowfirst 3 2", RowFirst(3, 2)), ("rowfirst 4 3", RowFirst(4, 3)), ("loop 2", Loop(2)),
                           ("loop 7", Loop(7)), ("tree 0 0 1 1 2", Tree([0, 0, 1, 1, 2])), ("tree 0", Tree([0]))):
            for again in range(5):
                desk = Desk()
                desk.say(row)
                lanes = len(table.land.lanes)
                rooms = [chance.randint(1, 4) for lane in range(lanes)]
                desk.say("rooms " + " ".join(str(room) for room in rooms))
                letters = []
                for number in range(chance.randint(1, 8)):
                    start, goal = chance.choice(starts(table))
                    letters.append((goal, chance.randint(1, 6)))
                    self.assertEqual(desk.say(f"post {start} {goal} {letters[-1][1]} 0"), str(number))
                made = 0
                while desk.say("moves") != "none":
                    self.assertEqual(desk.say("still"), "no")
                    made += int(desk.say(f"run {chance.randrange(10 ** 9)} {chance.randint(1, 9)}"))
                    moves = desk.say("moves")
                    if moves != "none":
                        self.assertEqual(desk.say("do " + chance.choice(moves.split("; "))), "ok")
                        made += 1
                self.assertLessEqual(made, sum(length for goal, length in letters) * (2 * lanes + 1))
                self.assertEqual([desk.say(f"lane {lane}") for lane in range(lanes)], [f"{room} 0 -" for room in rooms])
                self.assertEqual(desk.say("waits"), "none")
                for place in range(table.land.places):
                    told = desk.say(f"lying {place}")
                    pieces = [] if told == "none" else told.split(" ")
                    for number, (goal, length) in enumerate(letters):
                        wanted = [f"{number}.{count}" for count in range(length)] if goal == place else []
                        self.assertEqual([piece for piece in pieces if piece.startswith(f"{number}.")], wanted)


class TestTheSameEachTime(unittest.TestCase):
    def test_the_same_deeds_give_the_same(self):
        def deeds():
            told = []
            for table in (RowFirst(3, 2), Loop(4), Tree([0, 1, 0]), Nearer(Land(3, [(0, 1), (1, 2), (2, 0)]))):
                yard = Yard(table)
                for start, goal in starts(table)[:6]:
                    yard.post(start, goal, 2)
                told.append((look(table), search(yard, 50), run(yard, lambda moves: 5, 100), all_told(yard),
                             all_ways(Less(table, 3))))
            return told

        self.assertEqual(deeds(), deeds())


if __name__ == "__main__":
    unittest.main()
