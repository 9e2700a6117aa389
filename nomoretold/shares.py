"""Shares of a secret: the values of a polynomial by a prime, which at 0 has the secret.

The functions of the interface check what they are given. shares_of and weights_at_zero
do not: they are there, with the require functions, for modules that share, too.
"""

from nomoretold.errors import BadCoins, BadLot, BadNumber, BadPoints, BadPrime, BadSecret
from nomoretold.kinds import are_numbers, is_lot, is_number, rows_below

PRIMES = (5, 7, 11, 13)
LEAST_PEOPLE = 2
MOST_PEOPLE = 4
MOST_COINS = 3
MOST_POINTS = 5


def require_prime(p):
    """Raise BadPrime unless the value is one of the primes."""
    if p not in PRIMES:
        raise BadPrime("the prime is 5, 7, 11 or 13")


def require_many(many):
    """Raise BadNumber unless the value is a number of people."""
    if not is_number(many, LEAST_PEOPLE, MOST_PEOPLE):
        raise BadNumber("there are 2 to 4 people")


def require_lot(lot, many):
    """Raise BadLot unless the value is a lot of so many people."""
    if not is_lot(lot, many):
        raise BadLot("a lot is an ascending tuple of one or more unlike people")


def _require_secret(p, secret):
    """Raise BadSecret unless the value is a number by p."""
    if not is_number(secret, 0, p - 1):
        raise BadSecret("a secret is an integer from 0 up, below the prime")


def dealt(p, many, secret, coins):
    """What each person gets: the values at 1, 2, .. of the polynomial of the secret and the coins."""
    require_prime(p)
    require_many(many)
    _require_secret(p, secret)
    if not isinstance(coins, tuple) or not 1 <= len(coins) <= MOST_COINS:
        raise BadCoins("there are 1 to 3 coins")
    if not are_numbers(coins, len(coins), p - 1):
        raise BadCoins("a coin is an integer from 0 up, below the prime")
    return shares_of(p, many, secret, coins)


def shares_of(p, many, secret, coins):
    """As dealt, unchecked."""
    return tuple([_value_at(p, (secret,) + coins, place) for place in range(1, many + 1)])


def _value_at(p, factors, place):
    """The value at the place, by p, of the polynomial with these factors, that of the least power first."""
    value = 0
    for factor in factors[::-1]:
        value = (value * place + factor) % p
    return value


def rebuilt(p, points):
    """The value at 0 of the polynomial of the least degree through the points."""
    require_prime(p)
    if not _are_points(p, points):
        raise BadPoints("points are a tuple of 1 to 5 pairs of a place, these ascending, and a value")
    weights = weights_at_zero(p, [place for place, _ in points])
    return sum([weight * value for weight, (_, value) in zip(weights, points)]) % p


def _are_points(p, value):
    """Whether the value is a tuple of 1 to 5 pairs of a place and a value, places ascending."""
    if not isinstance(value, tuple) or not 1 <= len(value) <= MOST_POINTS:
        return False
    if not all([_is_point(p, point) for point in value]):
        return False
    return all([one[0] < other[0] for one, other in zip(value, value[1:])])


def _is_point(p, value):
    """Whether the value is a pair of a place, which isn't 0, and a number."""
    if not isinstance(value, tuple) or len(value) != 2:
        return False
    return is_number(value[0], 1, p - 1) and is_number(value[1], 0, p - 1)


def weights_at_zero(p, places):
    """For each place the weight by which the values there sum to the value at 0.

    They do so for each polynomial with a degree less than the number of places.
    """
    weights = []
    for place in places:
        weight = 1
        for other in places:
            if other != place:
                weight = weight * other * _inverse(p, other - place) % p
        weights.append(weight)
    return weights


def _inverse(p, number):
    """The number from 1 to p - 1 that, times this one, is 1 by p."""
    return [other for other in range(1, p) if number * other % p == 1][0]


def seen(p, many, size, secret, lot):
    """What the lot can get, with the number of rows of so many coins with which it comes."""
    require_prime(p)
    require_many(many)
    if not is_number(size, 1, MOST_COINS):
        raise BadNumber("there are 1 to 3 coins")
    _require_secret(p, secret)
    require_lot(lot, many)
    found = {}
    for coins in rows_below((p,) * size):
        shares = shares_of(p, many, secret, coins)
        got = tuple([shares[person] for person in lot])
        found[got] = found.get(got, 0) + 1
    return found
