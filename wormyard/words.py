"""Words: how a row of text is parted into them, and how numbers are written and read."""

FIGURES = "0123456789"
MOST_FIGURES = 60


def words_of(row):
    """Tell the words of a row, parted by single blanks; one is empty where a blank stands too much."""
    return row.split(" ")


def number_of(word):
    """Tell the number from 0 on that a word writes, or None where it writes none."""
    if len(word) > MOST_FIGURES or not word or not all([sign in FIGURES for sign in word]):
        return None
    number = int(word)
    # Noughts ahead are not written.
    return number if str(number) == word else None


def signed_of(word):
    """Tell the number, perhaps with a - ahead, that a word writes, or None where it writes none."""
    if not word.startswith("-"):
        return number_of(word)
    number = number_of(word[1:])
    return None if number is None or number == 0 else -number


def written(thing):
    """Tell how a word, a number or None is written."""
    return "-" if thing is None else str(thing)


def row_of(things):
    """Tell the row of text with all of these, one behind the other."""
    return " ".join([written(thing) for thing in things])
