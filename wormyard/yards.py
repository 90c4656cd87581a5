"""Yards: letters on their ways over the lanes of a table's land."""

from wormyard.errors import Full, NoLength, NoMove, NoPlace, NoRooms, NoWay, NoWord
from wormyard.lanes import Lane
from wormyard.tables import onward
from wormyard.whole import is_whole, is_within

MOST_ROOM = 60
MOST_LENGTH = 60
MOST_LETTERS = 60


def rooms_of(land, rooms):
    """Tell the rooms of the lanes as a tuple, 1 each where they are left out."""
    if rooms is None:
        return tuple([1 for lane in land.lanes])
    if len(rooms) != len(land.lanes) or not all([is_within(room, 1, MOST_ROOM) for room in rooms]):
        raise NoRooms("each lane has a room from 1 to 60")
    return tuple(rooms)


def is_word(word):
    """Tell whether a word is a whole number of at most sixty figures."""
    return is_whole(word) and abs(word) < 10 ** 60


def is_move(move):
    """Tell whether something is a tuple of words and whole numbers."""
    # A truth equals a number, so it would pass for one where moves are held against each other.
    return isinstance(move, tuple) and all([isinstance(thing, str) or is_whole(thing) for thing in move])


class Letter:
    """A letter: what it was posted with, how many of its pieces are gone from its start, and its way."""

    def __init__(self, start, goal, length, word):
        self.start = start
        self.goal = goal
        self.length = length
        self.word = word
        self.gone = 0
        self.way = []

    def twin(self):
        """Tell another letter that stands alike."""
        other = Letter(self.start, self.goal, self.length, self.word)
        other.gone = self.gone
        other.way = list(self.way)
        return other


class Yard:
    """A yard of a table: a lane for each lane of its land, letters, what lies at the places, and what was done."""

    def __init__(self, table, rooms=None):
        self.table = table
        self.rooms = rooms_of(table.land, rooms)
        self.lanes = [Lane(room) for room in self.rooms]
        self.letters = []
        self.lies = [() for place in range(table.land.places)]
        self.done = []

    def post(self, start, goal, length, word=0):
        """Post a letter and tell its number; its pieces stand at its start."""
        last_place = self.table.land.places - 1
        if not is_within(start, 0, last_place) or not is_within(goal, 0, last_place):
            raise NoPlace("start and goal are places of the land")
        if not is_within(length, 1, MOST_LENGTH):
            raise NoLength("a letter has one to sixty pieces")
        if not is_word(word):
            raise NoWord("a word is a whole number of at most sixty figures")
        if start == goal or not self.table.ways(start, goal, None):
            raise NoWay(start, goal)
        if len(self.letters) >= MOST_LETTERS:
            raise Full("sixty letters are posted")
        self.letters.append(Letter(start, goal, length, word))
        self.done.append(("post", start, goal, length, word))
        return len(self.letters) - 1

    def moves(self):
        """Tell the moves that may be made as a list: in by letter, then on, lie and back by lane."""
        found = []
        for number in range(len(self.letters)):
            found.extend(self.moves_in(number))
        for lane in range(len(self.lanes)):
            found.extend(self.moves_on(lane))
        for lane in range(len(self.lanes)):
            found.extend(self.moves_lie(lane))
        for lane in range(len(self.lanes)):
            found.extend(self.moves_back(lane))
        return found

    def moves_in(self, number):
        """Tell the moves by which the next piece of a letter may leave its start, by lane."""
        letter = self.letters[number]
        if letter.gone == letter.length:
            return []
        wanted = self.table.ways(letter.start, letter.goal, None) if letter.gone == 0 else letter.way[:1]
        return [("in", number, lane) for lane in wanted if self.lanes[lane].open_to(number, letter.gone)]

    def moves_on(self, lane):
        """Tell the moves by which the front of a lane may go on, by the other lane."""
        piece = self.lanes[lane].front()
        wanted = self.wanted(lane)
        return [("on", lane, other) for other in wanted if self.lanes[other].open_to(piece[0], piece[1])]

    def moves_lie(self, lane):
        """Tell the move by which the front of a lane may come to lie, if it may."""
        piece = self.lanes[lane].front()
        if piece is None or self.letters[piece[0]].goal != self.table.land.end_of(lane):
            return []
        return [("lie", lane)]

    def moves_back(self, lane):
        """Tell the move by which a right of a lane may be brought, if one is on its way back."""
        return [("back", lane)] if self.lanes[lane].returning > 0 else []

    def wanted(self, lane):
        """Tell the lanes that the front of a lane may go into, rising, whether they are open to it or not."""
        piece = self.lanes[lane].front()
        if piece is None:
            return []
        letter = self.letters[piece[0]]
        if piece[1] == 0:
            return [way for way in onward(self.table, lane, letter.goal) if way not in letter.way]
        # No lane stands twice in a way; the last one ends at the goal, and nothing is wanted behind it.
        behind = letter.way.index(lane) + 1
        return letter.way[behind:behind + 1]

    def moves_like(self, move):
        """Tell the moves that may be made with the first word and the first number of a move."""
        if not is_move(move) or len(move) < 2:
            return []
        if move[0] == "in":
            return self.moves_in(move[1]) if is_within(move[1], 0, len(self.letters) - 1) else []
        if not is_within(move[1], 0, len(self.lanes) - 1):
            return []
        if move[0] == "on":
            return self.moves_on(move[1])
        if move[0] == "lie":
            return self.moves_lie(move[1])
        return self.moves_back(move[1]) if move[0] == "back" else []

    def do(self, move):
        """Make a move."""
        if move not in self.moves_like(move):
            raise NoMove("this move may not be made")
        if move[0] == "in":
            self.go_in(move[1], move[2])
        elif move[0] == "on":
            self.enter(self.own_lane(move[1]).pull(), move[2])
        elif move[0] == "lie":
            self.lay(self.own_lane(move[1]).pull(), self.table.land.end_of(move[1]))
        else:
            self.own_lane(move[1]).bring()
        self.done.append(move)

    def go_in(self, number, lane):
        """Let the next piece of a letter leave its start."""
        letter = self.own_letter(number)
        letter.gone += 1
        self.enter((number, letter.gone - 1), lane)

    def enter(self, piece, lane):
        """Let a piece go into a lane that is open to it."""
        if piece[1] == 0:
            self.own_letter(piece[0]).way.append(lane)
        last = piece[1] == self.letters[piece[0]].length - 1
        self.own_lane(lane).put(piece[0], piece[1], last)

    def lay(self, piece, place):
        """Let a piece lie at a place, behind all that lie there."""
        self.lies[place] = self.lies[place] + (piece,)

    def own_lane(self, lane):
        """Tell a lane that may be changed: twins may have the same one, so a copy takes its place."""
        self.lanes[lane] = self.lanes[lane].twin()
        return self.lanes[lane]

    def own_letter(self, number):
        """Tell a letter that may be changed, as with a lane."""
        self.letters[number] = self.letters[number].twin()
        return self.letters[number]

    def ended(self):
        """Tell whether all pieces of all letters lie at places."""
        return sum([letter.length for letter in self.letters]) == sum([len(pieces) for pieces in self.lies])

    def lane_told(self, lane):
        """Tell the rights of a lane, those on their way back, its holder or None, and a list of its pieces."""
        return self.lanes[lane].told()

    def letter_told(self, number):
        """Tell the start, the goal, the length and the word of a letter."""
        letter = self.letters[number]
        return (letter.start, letter.goal, letter.length, letter.word)

    def way_told(self, number):
        """Tell the lanes that the head of a letter has gone into, in this order."""
        return list(self.letters[number].way)

    def lying(self, place):
        """Tell the pieces that lie at a place, in the order in which they came."""
        return list(self.lies[place])

    def posted(self):
        """Tell how many letters were posted."""
        return len(self.letters)

    def history(self):
        """Tell all that was done, in order: the moves, and the posts as ("post", start, goal, length, word)."""
        return list(self.done)

    def stand(self):
        """Tell how the yard stands as a tuple: all that is told of it but its history and its letters' posts."""
        lanes = [(lane.rights, lane.returning, lane.holder, tuple(lane.pieces)) for lane in self.lanes]
        return (tuple(lanes), tuple([tuple(letter.way) for letter in self.letters]), tuple(self.lies))

    def bare_twin(self):
        """Tell another yard of the same table that stands alike, without a history."""
        other = Yard(self.table, self.rooms)
        other.lanes = list(self.lanes)
        other.letters = list(self.letters)
        other.lies = list(self.lies)
        return other

    def twin(self):
        """Tell another yard of the same table that stands alike, history and all."""
        other = self.bare_twin()
        other.done = list(self.done)
        return other
