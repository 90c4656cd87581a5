"""The desk: a table and a yard of it, told what to do by rows of text."""

from wormyard.bits import set_of
from wormyard.errors import NoRow
from wormyard.lands import Land
from wormyard.less import Less
from wormyard.looks import look
from wormyard.makers import Loop, Nearer, RowFirst, Tree
from wormyard.runs import run
from wormyard.stands import still, waits
from wormyard.words import number_of, row_of, signed_of, words_of, written
from wormyard.yards import Yard

# For each row the kinds of the words that it has, then the kind of those that may follow, None for none.
FORMS = {
    "rowfirst": (("number", "number"), None),
    "loop": (("number",), None),
    "tree": ((), "number"),
    "land": (("number",), "road"),
    "out": (("lane",), "lane"),
    "rooms": ((), "number"),
    "look": ((), None),
    "post": (("number", "number", "number", "word"), None),
    "moves": ((), None),
    "do in": (("letter", "lane"), None),
    "do on": (("lane", "lane"), None),
    "do lie": (("lane",), None),
    "do back": (("lane",), None),
    "run": (("number", "number"), None),
    "lane": (("lane",), None),
    "lying": (("place",), None),
    "still": ((), None),
    "waits": ((), None),
}


def road_of(word):
    """Tell the pair of places that a word START-END writes, or None."""
    parts = word.split("-")
    if len(parts) != 2:
        return None
    pair = (number_of(parts[0]), number_of(parts[1]))
    return None if None in pair else pair


def how_many(yard, kind):
    """Tell how many things of a kind a yard has."""
    if kind == "letter":
        return yard.posted()
    return len(yard.table.land.lanes) if kind == "lane" else yard.table.land.places


def value_of(yard, kind, word):
    """Tell what a word of a kind stands for, or None where it is no such word."""
    if kind == "road":
        return road_of(word)
    if kind == "word":
        return signed_of(word)
    number = number_of(word)
    if number is None or kind == "number":
        return number
    return number if number < how_many(yard, kind) else None


def values_of(yard, form, words):
    """Tell what the words behind the name of a row stand for, as a list."""
    more = len(words) - len(form[0])
    if more < 0 or (more > 0 and form[1] is None):
        raise NoRow("too few words or too many")
    kinds = list(form[0]) + [form[1] for number in range(more)]
    values = [value_of(yard, kind, word) for kind, word in zip(kinds, words)]
    if None in values:
        raise NoRow("a word is none of its kind, or names what there is none of")
    return values


def make_rowfirst(values):
    """Make the table of `rowfirst WIDE HIGH`."""
    return RowFirst(values[0], values[1])


def make_loop(values):
    """Make the table of `loop MANY`."""
    return Loop(values[0])


def make_tree(values):
    """Make the table of `tree PARENT ..`."""
    return Tree(values)


def make_land(values):
    """Make the table of `land PLACES START-END ..`."""
    return Nearer(Land(values[0], values[1:]))


MAKERS = {"rowfirst": make_rowfirst, "loop": make_loop, "tree": make_tree, "land": make_land}


def pair_texts(pairs):
    """Tell pairs of numbers as texts with a - between."""
    return [f"{one}-{other}" for one, other in pairs]


def piece_texts(pieces):
    """Tell pieces as texts LETTER.COUNT."""
    return [f"{letter}.{count}" for letter, count in pieces]


def answer_look(yard, values):
    """Tell what a look at the table tells."""
    told = look(yard.table)
    if told[0] == "lost":
        return row_of(("lost",) + told[1])
    if told[0] == "ring":
        return row_of(["ring"] + pair_texts(told[1]))
    return row_of(("paper",) + told[1][0])


def answer_post(yard, values):
    """Post a letter and tell its number."""
    return written(yard.post(values[0], values[1], values[2], values[3]))


def answer_moves(yard, values):
    """Tell the moves that may be made."""
    return "; ".join([row_of(move) for move in yard.moves()]) or "none"


def answer_run(yard, values):
    """Make moves and tell how many."""
    return written(len(run(yard, lambda moves: values[0], values[1])))


def answer_lane(yard, values):
    """Tell the rights, those on their way back, the holder and the pieces of a lane."""
    told = yard.lane_told(values[0])
    return row_of(list(told[:3]) + piece_texts(told[3]))


def answer_lying(yard, values):
    """Tell the pieces that lie at a place."""
    return row_of(piece_texts(yard.lying(values[0]))) or "none"


def answer_still(yard, values):
    """Tell whether the yard is still."""
    return "yes" if still(yard) else "no"


def answer_waits(yard, values):
    """Tell what the yard waits for."""
    rows = []
    for lane, wanted in waits(yard):
        lanes = ",".join([written(other) for other in wanted]) or "-"
        rows.append(f"{lane}:{lanes}")
    return row_of(rows) or "none"


ANSWERS = {"look": answer_look, "post": answer_post, "moves": answer_moves, "run": answer_run, "lane": answer_lane,
           "lying": answer_lying, "still": answer_still, "waits": answer_waits}


def name_of(words):
    """Tell the name of a row: its first word, and the next one too where a move is to be done."""
    return row_of(words[:2]) if words[0] == "do" else words[0]


class Desk:
    """A desk: it answers each row of text with a text."""

    def __init__(self):
        # None as long as there is no table.
        self.yard = None

    def say(self, row):
        """Do what a row tells, and tell the answer."""
        if not isinstance(row, str):
            raise NoRow("this is no text")
        words = words_of(row)
        name = name_of(words)
        if name not in FORMS or (self.yard is None and name not in MAKERS):
            raise NoRow("there is no such row, or no table yet")
        behind = 2 if words[0] == "do" else 1
        return self.answer(name, values_of(self.yard, FORMS[name], words[behind:]))

    def answer(self, name, values):
        """Do what a row of a name tells with its values, and tell the answer."""
        if name in MAKERS:
            return self.take(MAKERS[name](values))
        if name == "out":
            table = Less(self.yard.table, set_of(values))
            self.take(table)
            return row_of(["cut"] + pair_texts(table.cut_off()))
        if name == "rooms":
            self.yard = Yard(self.yard.table, values)
            return "ok"
        if name in ANSWERS:
            return ANSWERS[name](self.yard, values)
        self.yard.do(tuple(words_of(name)[1:] + values))
        return "ok"

    def take(self, table):
        """Begin a new yard of a table."""
        self.yard = Yard(table)
        return "ok"
