"""Sets of numbers from 0 on, each kept as one whole number: n is in it where its bit n is set."""


def has(some, number):
    """Tell whether a number is in a set."""
    return number >= 0 and ((some >> number) & 1) == 1


def members(some):
    """Tell the numbers of a set as a list, rising."""
    return [number for number in range(some.bit_length()) if has(some, number)]


def set_of(numbers):
    """Tell the set of a list of numbers."""
    some = 0
    for number in numbers:
        some = some | (1 << number)
    return some
