"""Kinds of values that more than one module asks for."""

from math import gcd

FIGURES = "0123456789"


def is_number(value, least, most):
    """Whether the value is an integer from least to most; a bool is none."""
    return isinstance(value, int) and not isinstance(value, bool) and least <= value <= most


def are_numbers(value, many, most):
    """Whether the value is a tuple of so many integers from 0 to most."""
    if not isinstance(value, tuple) or len(value) != many:
        return False
    return all([is_number(number, 0, most) for number in value])


def is_lot(value, many):
    """Whether the value is an ascending tuple of one or more unlike numbers below many."""
    if not isinstance(value, tuple) or len(value) == 0:
        return False
    if not all([is_number(thing, 0, many - 1) for thing in value]):
        return False
    return all([one < other for one, other in zip(value, value[1:])])


def ratio(top, low):
    """The ratio of two integers, low above 0: the pair of them without a common divisor."""
    common = gcd(top, low)
    return (top // common, low // common)


def number_told(word, least, most):
    """The number from least to most that the word tells in figures, without needless zeros; None."""
    # A word with more figures than most is none, and might have more than Python reads at once.
    if not 1 <= len(word) <= len(str(most)) or not all([sign in FIGURES for sign in word]):
        return None
    if word[0] == "0" and len(word) > 1:
        return None
    number = int(word)
    return number if least <= number <= most else None


def multiplied(numbers):
    """The product of the numbers."""
    whole = 1
    for number in numbers:
        whole = whole * number
    return whole


def rows_below(sizes):
    """All rows of numbers, each below its size, ascending as tuples."""
    rows = [()]
    for size in sizes:
        rows = [row + (number,) for row in rows for number in range(size)]
    return rows
