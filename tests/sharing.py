"""What tests of shares and sheets share: the primes, and wrong values."""

from support import WRONG_INTEGERS, WRONG_VALUES

PRIMES = (5, 7, 11, 13)
WRONG_PRIMES = WRONG_VALUES + WRONG_INTEGERS + [
    2, 3, 4, 8, 9, 10, 12, 14, 15, 17, 19, -5, -7, "5", (5,), [7], True, 10 ** 40 + 7,
]
WRONG_MANY = WRONG_VALUES + WRONG_INTEGERS + [5, 7, -2, "2", (2,), [3], True]
# No lots of two people.
WRONG_LOTS = WRONG_VALUES + WRONG_INTEGERS + [
    (), (2,), (0, 2), (-1,), (1, 0), (0, 0), [0], "0", (True,), (0, True), ("0",), (None,), ((0,),), (10 ** 5000,),
    {0: 0},
]
