"""Runs: moves picked one behind the other, and how many there can be."""


def run(yard, pick, most):
    """Make at most so many moves, each picked by its number, and tell them as a list."""
    made = []
    moves = yard.moves()
    while moves and len(made) < most:
        # A list of its own, as whoever picks may change it.
        number = pick(list(moves))
        move = moves[number % len(moves)]
        yard.do(move)
        made.append(move)
        moves = yard.moves()
    return made


def most_moves(yard):
    """Tell the count that the moves of a yard never pass."""
    pieces = sum([yard.letter_told(number)[2] for number in range(yard.posted())])
    return pieces * (2 * len(yard.table.land.lanes) + 1)
