"""Kinds of values that more than one module asks for."""

from math import gcd


def is_number(value, least, most):
    """Whether the value is an integer from least to most; a bool is none."""
    return isinstance(value, int) and not isinstance(value, bool) and least <= value <= most


def is_lot(value, many):
    """Whether the value is an ascending tuple of one or more unlike numbers below many."""
    if not isinstance(value, tuple) or len(value) == 0:
        return False
    if not all([is_number(thing, 0, many - 1) for thing in value]):
        return False
    return all([one < other for one, other in zip(value, value[1:])])


def ratio(top, low):
    """The ratio of two integers, low above 0: the pair of them without a common divisor."""
    common = gcd(top, low)
    return (top // common, low // common)
