import random
import unittest
from collections import Counter
from itertools import combinations, product

from nomoretold.errors import BadCoins, BadLot, BadNumber, BadPoints, BadPrime, BadSecret
from nomoretold.shares import dealt, rebuilt, seen
from sharing import PRIMES, WRONG_LOTS, WRONG_MANY, WRONG_PRIMES
from support import WRONG_INTEGERS, WRONG_VALUES, check_error, check_order, error_of, nested, plain_lots

# No numbers by 5.
WRONG_SECRETS = WRONG_VALUES + [value for value in WRONG_INTEGERS if value not in (0, 1)] + [
    5, -1, True, False, "0", (0,), [1], None,
]
# No tuples of 1 to 3 numbers by 5.
WRONG_COINS = WRONG_VALUES + WRONG_INTEGERS + [
    (), (0, 0, 0, 0), (0,) * 5, [0], [0, 0], "0", "00", ("0",), (None,), (True,), (0, False), (5,), (0, 5), (-1,),
    (0, 0, -1),
    ((0,),), (0, (0,)), (10 ** 5000,), (0, [0]), {0: 0}, (nested("list", 199),),
]
# No points by 5.
WRONG_POINTS = WRONG_VALUES + WRONG_INTEGERS + [
    (), (0,), (1, 0), ((1,),), ((1, 0, 0),), ((1, 0), (2,)), [(1, 0)], ([1, 0],), ((1, 0), [2, 0]), "10", ("10",),
    ((1, 0), "20"),
    ((0, 0),), ((5, 0),), ((-1, 0),), ((6, 0),), ((1, 5),), ((1, -1),), ((1, 10 ** 5000),), ((10 ** 5000, 1),),
    ((True, 0),),
    ((1, True),), ((1, False),), ((None, 0),), ((1, None),), (("1", 0),), ((1, "0"),), (((1,), 0),), ((1, (0,)),),
    ((2, 0), (1, 0)), ((1, 0), (1, 0)), ((1, 0), (1, 1)), ((1, 0), (3, 0), (2, 0)),
    ((1, 0), (2, 0), (3, 0), (4, 0), (4, 0)),
    ((1, 0), (2, 0), (3, 0), (4, 0), (5, 0)), {(1, 0): 0}, ((1, nested("list", 198)),), (nested("tuple", 199),),
]


def plain_value(p, factors, z):
    """The value of the polynomial by the sum of its powers."""
    return divmod(sum(factor * z ** power for power, factor in enumerate(factors)), p)[1]


def plain_dealt(p, many, secret, coins):
    return tuple(plain_value(p, (secret, *coins), z) for z in range(1, many + 1))


class Examples(unittest.TestCase):
    def test_the_example(self):
        self.assertEqual(
            [dealt(7, 3, 5, (2,)), rebuilt(7, ((1, 0), (2, 2))),
             seen(5, 3, 1, 4, (1,)) == {(n,): 1 for n in (0, 1, 2, 3, 4)}],
            [(0, 2, 4), 5, True],
        )


class Dealt(unittest.TestCase):
    def test_for_each_prime(self):
        for p, many in product(PRIMES, (2, 3, 4)):
            for secret in range(p):
                for size in (1, 2, 3):
                    for coins in list(product(range(p), repeat=size))[::1 if size < 3 else 37]:
                        self.assertEqual(dealt(p, many, secret, coins), plain_dealt(p, many, secret, coins))

    def test_by_hand(self):
        # 3 + 2 z + 4 z z + z z z, at 1, 2, 3 and 4.
        self.assertEqual(dealt(13, 4, 3, (2, 4, 1)), (10, 5, 7, 9))
        self.assertEqual(dealt(5, 2, 4, (0,)), (4, 4))

    def test_wrong_values(self):
        check_order(self, dealt, [5, 2, 0, (0,)], [
            [(value, BadPrime) for value in WRONG_PRIMES], [(value, BadNumber) for value in WRONG_MANY],
            [(value, BadSecret) for value in WRONG_SECRETS], [(value, BadCoins) for value in WRONG_COINS],
        ])

    def test_bounds_by_the_prime(self):
        for p in PRIMES:
            for number in range(-2, 16):
                right = 0 <= number < p
                self.assertIs(type(error_of(dealt, p, 2, number, (0,))), type(None) if right else BadSecret)
                self.assertIs(type(error_of(dealt, p, 2, 0, (0, number))), type(None) if right else BadCoins)
                many = type(None) if 2 <= number <= 4 else BadNumber
                self.assertIs(type(error_of(dealt, p, number, 0, (0,))), many)
        for number in range(-20, 20):
            self.assertIs(type(error_of(dealt, number, 2, 0, (0,))), type(None) if number in PRIMES else BadPrime)


class Rebuilt(unittest.TestCase):
    def test_by_all_polynomials_for_five(self):
        for many in (1, 2, 3, 4):
            for places in combinations(range(1, 5), many):
                for factors in product(range(5), repeat=many):
                    points = tuple((place, plain_value(5, factors, place)) for place in places)
                    self.assertEqual(rebuilt(5, points), factors[0])

    def test_by_polynomials_of_the_other_primes(self):
        chance = random.Random(1)
        for p in PRIMES[1:]:
            for _ in range(400):
                many = chance.randint(1, 5)
                places = sorted(chance.sample(range(1, p), many))
                factors = [chance.randrange(p) for _ in range(many)]
                points = tuple((place, plain_value(p, factors, place)) for place in places)
                self.assertEqual(rebuilt(p, points), factors[0])

    def test_by_all_values_at_two_places(self):
        for p in PRIMES:
            for places in combinations(range(1, p), 2):
                for factors in product(range(p), repeat=2):
                    points = tuple((place, plain_value(p, factors, place)) for place in places)
                    self.assertEqual(rebuilt(p, points), factors[0])

    def test_by_hand(self):
        self.assertEqual(rebuilt(5, ((3, 2),)), 2)
        # Three points on a line tell a line.
        self.assertEqual(rebuilt(13, ((1, 7), (5, 2), (12, 3))), rebuilt(13, ((1, 7), (5, 2))))

    def test_five_points(self):
        places = (1, 2, 3, 4, 6)
        self.assertEqual(rebuilt(7, tuple((place, place ** 4 - 7 * (place ** 4 // 7)) for place in places)), 0)

    def test_wrong_values(self):
        check_order(self, rebuilt, [5, ((1, 0),)], [
            [(value, BadPrime) for value in WRONG_PRIMES], [(value, BadPoints) for value in WRONG_POINTS],
        ])

    def test_bounds_by_the_prime(self):
        for p in PRIMES:
            for place, value in product(range(-1, 15), repeat=2):
                error = error_of(rebuilt, p, ((place, value),))
                self.assertIs(type(error), type(None) if 0 < place < p and 0 <= value < p else BadPoints)
            for many in range(0, 9):
                error = error_of(rebuilt, p, tuple((place, 0) for place in range(1, many + 1)))
                self.assertIs(type(error), type(None) if 1 <= many <= min(5, p - 1) else BadPoints)


class Seen(unittest.TestCase):
    def test_by_all_coins(self):
        for p, many, size in product((5, 7), (2, 3, 4), (1, 2)):
            for secret, lot in product((0, 1, p - 1), plain_lots(many)):
                rows = (plain_dealt(p, many, secret, coins) for coins in product(range(p), repeat=size))
                expected = Counter(tuple(row[person] for person in lot) for row in rows)
                self.assertEqual(seen(p, many, size, secret, lot), dict(expected))

    def test_lots_of_at_most_size_people_see_each_row_just_as_often(self):
        for p, many, size in product(PRIMES, (2, 3, 4), (1, 2, 3)):
            for lot in plain_lots(many):
                if len(lot) <= size and p ** size < 400:
                    often = p ** (size - len(lot))
                    rows = dict.fromkeys(product(range(p), repeat=len(lot)), often)
                    for secret in range(p):
                        self.assertEqual(seen(p, many, size, secret, lot), rows)

    def test_three_coins(self):
        for p in PRIMES:
            for lot in ((0,), (1, 3), (0, 2, 3)):
                rows = dict.fromkeys(product(range(p), repeat=len(lot)), p ** (3 - len(lot)))
                self.assertEqual(seen(p, 4, 3, p - 2, lot), rows)

    def test_greater_lots_tell_the_secret(self):
        for p, (many, size) in product(PRIMES, ((2, 1), (3, 1), (3, 2), (4, 2), (4, 1))):
            for lot in plain_lots(many):
                if len(lot) > size and p ** size < 200:
                    for secret in (0, 2, p - 1):
                        for row in seen(p, many, size, secret, lot):
                            points = tuple((person + 1, value) for person, value in zip(lot, row))
                            self.assertEqual(rebuilt(p, points), secret)

    def test_wrong_values(self):
        sizes = [(value, BadNumber) for value in WRONG_MANY + [0, 4] if value not in (1, 2, 3) or value is True]
        check_order(self, seen, [5, 2, 1, 0, (0,)], [
            [(value, BadPrime) for value in WRONG_PRIMES], [(value, BadNumber) for value in WRONG_MANY], sizes,
            [(value, BadSecret) for value in WRONG_SECRETS], [(value, BadLot) for value in WRONG_LOTS],
        ])

    def test_bounds(self):
        for number in range(-1, 7):
            self.assertIs(type(error_of(seen, 5, 2, number, 0, (0,))), type(None) if 1 <= number <= 3 else BadNumber)
            for many in (2, 3, 4):
                error = error_of(seen, 5, many, 1, 0, (number,))
                self.assertIs(type(error), type(None) if 0 <= number < many else BadLot)

    def test_dicts_are_new_each_time(self):
        seen(5, 2, 1, 0, (0,)).clear()
        self.assertEqual(seen(5, 2, 1, 0, (0,)), {(n,): 1 for n in range(5)})


class Errors(unittest.TestCase):
    def test_the_first_wrong_one_counts(self):
        check_error(self, BadPrime, dealt, 6, 9, 9, ())
        check_error(self, BadNumber, dealt, 5, 9, 9, ())
        check_error(self, BadSecret, dealt, 5, 4, 9, ())
        check_error(self, BadCoins, dealt, 5, 4, 4, ())
        check_error(self, BadNumber, seen, 5, 4, 4, 9, ())
        check_error(self, BadSecret, seen, 5, 4, 3, 9, ())
        check_error(self, BadLot, seen, 5, 4, 3, 4, ())


if __name__ == "__main__":
    unittest.main()
