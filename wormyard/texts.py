"""Texts that show tables and yards, and reading them."""

from wormyard.errors import NoText, YardError
from wormyard.lands import Land
from wormyard.tables import Told
from wormyard.words import number_of, row_of, signed_of, words_of
from wormyard.yards import Yard


def way_rows(table, place, goal):
    """Tell the rows of the ways at a place for a goal, come by no lane and by each one."""
    rows = []
    for came in [None] + table.land.into(place):
        ways = table.ways(place, goal, came)
        if ways:
            rows.append(row_of(["way", place, goal, came] + ways))
    return rows


def table_rows(table):
    """Tell the rows that show a table."""
    land = table.land
    rows = [row_of(("places", land.places))]
    rows.extend([row_of(("lane", pair[0], pair[1])) for pair in land.lanes])
    for place in range(land.places):
        for goal in range(land.places):
            rows.extend(way_rows(table, place, goal))
    return rows


def table_text(table):
    """Tell the text that shows a table."""
    return "\n".join(table_rows(table))


def yard_text(yard):
    """Tell the text that shows a yard: its table, its rooms, and all that was done."""
    rows = table_rows(yard.table)
    rows.append(row_of(("rooms",) + yard.rooms))
    rows.extend([row_of(deed) for deed in yard.history()])
    return "\n".join(rows)


def rows_of(text):
    """Tell the rows of a text, each as a list of words."""
    if not isinstance(text, str):
        raise NoText("this is no text")
    return [words_of(row) for row in text.split("\n")]


def read_way(words):
    """Tell the row of a told table that the words behind `way` write."""
    came = None if words[2] == "-" else number_of(words[2])
    return (number_of(words[0]), number_of(words[1]), came, [number_of(word) for word in words[3:]])


def make_table(rows):
    """Make the table that rows tell; what is no such row is left out here, so that other rows will show the table."""
    lanes = [words for words in rows if words[0] == "lane" and len(words) == 3]
    ways = [words for words in rows if words[0] == "way" and len(words) > 4]
    land = Land(number_of(rows[0][-1]), [(number_of(words[1]), number_of(words[2])) for words in lanes])
    return Told(land, [read_way(words[1:]) for words in ways])


def do_deed(yard, words):
    """Do the deed that a row's words write; numbers that are none are refused with it."""
    deed = tuple([words[0]] + [signed_of(word) for word in words[1:]])
    if words[0] == "post" and len(words) == 5:
        yard.post(deed[1], deed[2], deed[3], deed[4])
    else:
        yard.do(deed)


def rooms_at(rows):
    """Tell the number of the row of rooms, which stands behind the rows of the table."""
    for number, words in enumerate(rows):
        if number > 0 and words[0] == "rooms":
            return number
    raise NoText("a yard has a row of rooms behind its table")


def make_yard(rows):
    """Make the yard that rows tell: a table, its rooms, and all that is done."""
    at = rooms_at(rows)
    yard = Yard(make_table(rows[:at]), [number_of(word) for word in rows[at][1:]])
    for words in rows[at + 1:]:
        do_deed(yard, words)
    return yard


def read_table(text):
    """Read a text as the told table that is shown as just this text."""
    rows = rows_of(text)
    try:
        table = make_table(rows)
    except YardError:
        raise NoText("the rows make no table") from None
    if table_text(table) != text:
        raise NoText("the table is shown as another text")
    return table


def read_yard(text):
    """Read a text as the yard that is shown as just this text."""
    rows = rows_of(text)
    try:
        yard = make_yard(rows)
    except YardError:
        raise NoText("the rows make no yard") from None
    if yard_text(yard) != text:
        raise NoText("the yard is shown as another text")
    return yard
