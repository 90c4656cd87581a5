"""Whole numbers, told from truths."""


def is_whole(value):
    """Tell whether a value is a whole number."""
    # Python counts a truth among the ints; the promises do not.
    return isinstance(value, int) and not isinstance(value, bool)


def is_within(value, least, most):
    """Tell whether a value is a whole number from least to most."""
    return is_whole(value) and least <= value <= most


def is_one_of(value, numbers):
    """Tell whether a value is a whole number that stands in a list."""
    return is_whole(value) and value in numbers
