"""Lanes: room for a few pieces, and a right for each piece that may still go in."""

from wormyard.errors import NoMove


class Lane:
    """A lane: a piece (letter, count) takes a right as it goes in, and sends one on its way back as it leaves."""

    def __init__(self, room):
        self.rights = room
        self.returning = 0
        self.holder = None
        self.pieces = []

    def open_to(self, letter, count):
        """Tell whether a piece may go in: a head where nobody holds the lane, another one where its letter does."""
        if self.rights == 0:
            return False
        if count == 0:
            return self.holder is None
        return self.holder == letter

    def put(self, letter, count, last):
        """Let a piece go in; last tells whether it is its letter's last one, behind which nobody holds the lane."""
        if not self.open_to(letter, count):
            raise NoMove("the lane is not open to this piece")
        self.rights -= 1
        self.pieces.append((letter, count))
        self.holder = None if last else letter

    def front(self):
        """Tell the piece that went in first of those in the lane, or None."""
        return self.pieces[0] if self.pieces else None

    def pull(self):
        """Let the front leave the lane, and tell it; a right is on its way back then."""
        if not self.pieces:
            raise NoMove("no piece is in the lane")
        self.returning += 1
        return self.pieces.pop(0)

    def bring(self):
        """Make a right of one that is on its way back."""
        if self.returning == 0:
            raise NoMove("no right is on its way back")
        self.returning -= 1
        self.rights += 1

    def told(self):
        """Tell the rights, those on their way back, the holder or None, and the pieces as a list, front first."""
        return (self.rights, self.returning, self.holder, list(self.pieces))

    def twin(self):
        """Tell another lane that stands alike."""
        other = Lane(self.rights)
        other.returning = self.returning
        other.holder = self.holder
        other.pieces = list(self.pieces)
        return other
