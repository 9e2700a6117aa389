import random
import unittest
from collections import Counter
from itertools import product

from nomoretold.errors import BadCoins, BadLot, BadNumber, BadPrime, BadSheet, BadThings, TooFew, TooMany
from nomoretold.shares import dealt, rebuilt
from nomoretold.sheets import by_shares, count_coins, share_views, sheet_value
from sharing import PRIMES, WRONG_LOTS, WRONG_MANY, WRONG_PRIMES
from support import WRONG_INTEGERS, WRONG_VALUES, check_error, check_order, error_of, nested, plain_lots

OWN = [("own", person) for person in range(4)]
TIMES = (OWN[0], OWN[1], ("times", 0, 1))
PLAIN = (OWN[0], OWN[1], ("sum", 0, 1))
CALLS = [sheet_value, count_coins, by_shares, share_views]

# No one of these is the third row of a sheet for two people.
WRONG_ROWS = WRONG_VALUES + WRONG_INTEGERS + [
    (), ("own",), ("own", 0, 0), ("own", 2), ("own", -1), ("own", True), ("own", False), ("own", "0"), ("own", None),
    ("own", (0,)), ("own", [0]), ("own", 10 ** 5000), ["own", 0], "own", ("Own", 0), ("owns", 0), (0, "own"), (None, 0),
    ("number",), ("number", 13), ("number", -1), ("number", True), ("number", "1"), ("number", 1, 1), ("number", None),
    ("number", 10 ** 5000), ("sum",), ("sum", 0), ("sum", 0, 2), ("sum", 2, 0), ("sum", 0, 1, 1), ("sum", -1, 0),
    ("sum", 0, -1), ("sum", True, 0), ("sum", 0, False), ("sum", "0", 0), ("sum", (0, 1)), ("sum", 0, 99),
    ("sum", None, 0),
    ("times",), ("times", 0), ("times", 0, 2), ("times", 2, 0), ("times", 0, 1, 1), ("times", -1, 0),
    ("times", 0, None),
    ("times", False, True), ("times", [0], [1]), ["times", 0, 1], ("minus", 0, 1), (["sum"], 0, 1), (("sum",), 0, 1),
    ("sum", 0, nested("list", 198)), (nested("tuple", 199), 0, 1), {"own": 0}, ("own", 0, None),
]


def wrong_sheets():
    """Pairs of what is no sheet for two people, and the index that BadSheet tells."""
    found = [(value, None) for value in WRONG_VALUES + WRONG_INTEGERS if not isinstance(value, tuple)]
    found += [((), None), (OWN[:1] * 9, None), ((OWN[0],) * 9, None), ((None,) * 9, None), ([], None), ("own", None)]
    found += [([OWN[0]], None), ({0: OWN[0]}, None)]
    for row in WRONG_ROWS:
        found += [((OWN[0], OWN[1], row), 2), ((OWN[0], OWN[1], row, None, row), 2), ((OWN[0],) * 2 + (row,) * 6, 2)]
    for row in WRONG_ROWS:
        found += [((row,), 0), ((row, OWN[0]), 0)]
    for kind in ("sum", "times"):
        found += [(((kind, 0, 0),), 0), ((OWN[0], (kind, 0, 1)), 1), ((OWN[0], (kind, 1, 0)), 1)]
        found += [(OWN[:2] * 3, None), ((OWN[0], (kind, 0, 0), (kind, 1, 1), (kind, 3, 0)), 3)]
    return found


WRONG_SHEETS = wrong_sheets()
WRONG_SIZES = [value for value in WRONG_MANY if value != 1 or value is True] + [0, 3, 4, True]


def some_sheet(chance, many, rows, kinds):
    """A sheet by chance."""
    sheet = []
    for index in range(rows):
        kind = chance.choice(kinds if index else [kind for kind in kinds if kind in ("own", "number")])
        if kind == "own":
            sheet.append(("own", chance.randrange(many)))
        elif kind == "number":
            sheet.append(("number", chance.randrange(13)))
        else:
            sheet.append((kind, chance.randrange(index), chance.randrange(index)))
    return tuple(sheet)


def plain_number(sheet, things, index=-1):
    """The whole number of a row, by those of the rows that it names."""
    kind, *rest = sheet[index]
    if kind == "own":
        return things[rest[0]]
    if kind == "number":
        return rest[0]
    one, other = (plain_number(sheet, things, row) for row in rest)
    return one + other if kind == "sum" else one * other


def rest_by(p, number):
    return divmod(number, p)[1]


def plain_weights(p, many):
    """The weights by which the values at 1, .., many sum to the value at 0, found among all by the powers."""
    for weights in product(range(p), repeat=many):
        sums = [sum(w * place ** power for place, w in enumerate(weights, 1)) for power in range(many)]
        if [rest_by(p, one) for one in sums] == [1] + [0] * (many - 1):
            return weights
    return None


def plain_shares(p, many, size, sheet, things, coins, weights):
    """What is dealt at each row at which is dealt, by those who deal; and the shares of the last row."""
    coins = list(coins)
    deals, shares = [], []

    def deal(person, secret):
        own, coins[:size] = tuple(coins[:size]), []
        return person, dealt(p, many, secret, own)

    for kind, *rest in sheet:
        if kind == "own":
            deals.append(dict([deal(rest[0], things[rest[0]])]))
            shares.append(deals[-1][rest[0]])
        elif kind == "number":
            shares.append([rest_by(p, rest[0])] * many)
        elif kind == "sum":
            shares.append([rest_by(p, shares[rest[0]][k] + shares[rest[1]][k]) for k in range(many)])
        else:
            secrets = [rest_by(p, shares[rest[0]][k] * shares[rest[1]][k]) for k in range(many)]
            deals.append(dict([deal(k, secrets[k]) for k in range(many)]))
            shares.append([rest_by(p, sum(weights[k] * deals[-1][k][to] for k in range(many))) for to in range(many)])
    assert coins == []
    return deals, tuple(shares[-1])


def plain_view(deals, shares, lot):
    seen = tuple(
        tuple(
            tuple(share if dealer in lot or to in lot else None for to, share in enumerate(own))
            for dealer, own in sorted(row.items())
        )
        for row in deals
    )
    return (seen, shares)


class Examples(unittest.TestCase):
    def test_the_example(self):
        sheet = (("own", 0), ("own", 1), ("times", 0, 1))
        self.assertEqual(
            [sheet_value(7, 3, sheet, (3, 4, 0)), count_coins(3, 1, sheet),
             by_shares(7, 3, 1, sheet, (3, 4, 0), (1, 2, 0, 0, 0))[0]],
            [5, 5, 5],
        )
        plain = (("own", 0), ("own", 1), ("sum", 0, 1))
        self.assertIs(
            share_views(5, 3, 1, plain, (1, 2, 0), (2,)) == share_views(5, 3, 1, plain, (3, 0, 0), (2,)), True,
        )


class SheetValue(unittest.TestCase):
    def test_by_chance(self):
        chance = random.Random(1)
        for _ in range(800):
            p, many, rows = chance.choice(PRIMES), chance.randint(2, 4), chance.randint(1, 8)
            sheet = some_sheet(chance, many, rows, ("own", "number", "sum", "times"))
            things = tuple(chance.randrange(p) for _ in range(many))
            self.assertEqual(sheet_value(p, many, sheet, things), rest_by(p, plain_number(sheet, things)))

    def test_by_hand(self):
        self.assertEqual(sheet_value(5, 2, (("number", 12),), (0, 0)), 2)
        self.assertEqual(sheet_value(13, 2, (("number", 12),), (0, 0)), 12)
        self.assertEqual(sheet_value(5, 2, (OWN[1], ("times", 0, 0), ("sum", 1, 1)), (0, 4)), 2)
        self.assertEqual(sheet_value(7, 4, (OWN[3], OWN[0]), (6, 0, 0, 1)), 6)


class WrongSheets(unittest.TestCase):
    def test_bad_sheet(self):
        for value, index in WRONG_SHEETS:
            told = (BadSheet, "index", index)
            for things in ((0, 0), None):
                check_error(self, told, sheet_value, 5, 2, value, things)
                check_error(self, told, by_shares, 5, 2, 1, value, things, ())
                check_error(self, told, share_views, 5, 2, 1, value, things, (0,))
            check_error(self, told, count_coins, 2, 1, value)

    def test_rows_that_can_be_wrong_for_fewer_people_alone(self):
        for many in (2, 3, 4):
            for person in range(5):
                sheet = (("number", 0), ("own", person))
                if person < many:
                    self.assertEqual(sheet_value(5, many, sheet, (3,) * many), 3)
                else:
                    check_error(self, (BadSheet, "index", 1), sheet_value, 5, many, sheet, (3,) * many)

    def test_one_to_eight_rows(self):
        for rows in range(0, 12):
            sheet = (("number", 1),) + (("sum", 0, 0),) * (rows - 1) if rows else ()
            if 1 <= rows <= 8:
                self.assertIsNone(error_of(sheet_value, 5, 2, sheet, (0, 0)))
            else:
                check_error(self, (BadSheet, "index", None), sheet_value, 5, 2, sheet, (0, 0))

    def test_rows_ahead(self):
        for kind, index, i, j in product(("sum", "times"), range(1, 8), range(-1, 9), range(-1, 9)):
            sheet = (("number", 1),) * index + ((kind, i, j),)
            error = error_of(count_coins, 4, 1, sheet)
            self.assertIs(type(error), type(None) if 0 <= min(i, j) and max(i, j) < index else BadSheet)

    def test_numbers_of_a_row(self):
        for n in range(-2, 16):
            for p in PRIMES:
                error = error_of(sheet_value, p, 2, (("number", n),), (0, 0))
                self.assertIs(type(error), type(None) if 0 <= n <= 12 else BadSheet)


class Errors(unittest.TestCase):
    PRIME = [(value, BadPrime) for value in WRONG_PRIMES]
    MANY = [(value, BadNumber) for value in WRONG_MANY]
    SIZE = [(value, BadNumber) for value in WRONG_SIZES]
    SHEET = [(value, (BadSheet, "index", index)) for value, index in WRONG_SHEETS[::11]]
    THINGS = [(value, BadThings) for value in WRONG_VALUES + WRONG_INTEGERS + [
        (), (0,), (0, 0, 0), [0, 0], "00", (5, 0), (0, 5), (-1, 0), (True, 0), (0, False), ("0", 0), (0, None),
        ((0,), 0),
        (0, 10 ** 5000), {0: 0, 1: 0}, (0, nested("list", 199)),
    ]]
    COINS = [(value, BadCoins) for value in WRONG_VALUES + WRONG_INTEGERS + [
        (), (0,), (0, 0, 0), [0, 0], "00", (5, 0), (0, 5), (-1, 0), (True, 0), (0, False), ("0", 0), (0, None),
        ((0,), 0),
        (0, 10 ** 5000), {0: 0, 1: 0}, ((0,), (0,)),
    ]]
    LOTS = [(value, BadLot) for value in WRONG_LOTS]

    def test_in_their_order(self):
        check_order(self, sheet_value, [5, 2, PLAIN, (0, 0)], [self.PRIME, self.MANY, self.SHEET, self.THINGS])
        check_order(self, count_coins, [2, 1, PLAIN], [self.MANY, self.SIZE, self.SHEET])
        check_order(self, by_shares, [5, 2, 1, PLAIN, (0, 0), (0, 0)], [
            self.PRIME, self.MANY, self.SIZE, self.SHEET, self.THINGS, self.COINS,
        ])
        check_order(self, share_views, [5, 2, 1, PLAIN, (0, 0), (0,)], [
            self.PRIME, self.MANY, self.SIZE, self.SHEET, self.THINGS, self.LOTS,
        ])

    def test_things_by_the_prime(self):
        for p in PRIMES:
            for number in range(-2, 16):
                told = 0 <= number < p
                self.assertIs(type(error_of(sheet_value, p, 2, PLAIN, (0, number))), type(None) if told else BadThings)
                error = error_of(by_shares, p, 2, 1, PLAIN, (0, 0), (number, 0))
                self.assertIs(type(error), type(None) if told else BadCoins)

    def test_too_few(self):
        for many, size in product((2, 3, 4), (1, 2)):
            things, lot = (0,) * many, (0,)
            number = ("number", 1)
            for sheet in (PLAIN, TIMES, (number,), (number, ("times", 0, 0)), (OWN[0], ("times", 0, 0), OWN[1])):
                has_product = any(row[0] == "times" for row in sheet)
                own = sum(row[0] == "own" for row in sheet)
                coins = (0,) * (size * own + size * many * has_product)
                enough = (2 * size if has_product else size) < many
                if enough:
                    self.assertEqual(count_coins(many, size, sheet), len(coins))
                    answer, _ = by_shares(5, many, size, sheet, things, coins)
                    self.assertEqual(answer, sheet_value(5, many, sheet, things))
                else:
                    check_error(self, TooFew, count_coins, many, size, sheet)
                    check_error(self, TooFew, by_shares, 5, many, size, sheet, things, coins)
                    check_error(self, TooFew, share_views, 5, many, size, sheet, things, lot)
                    # It comes at last.
                    check_error(self, BadCoins, by_shares, 5, many, size, sheet, things, coins + (0,))
                    check_error(self, BadCoins, by_shares, 5, many, size, sheet, things, None)
                    check_error(self, BadThings, by_shares, 5, many, size, sheet, things + (0,), coins)
                    check_error(self, BadThings, share_views, 5, many, size, sheet, None, lot)
                    check_error(self, BadLot, share_views, 5, many, size, sheet, things, ())

    def test_too_many(self):
        # Rows of so many coins; the greatest number that is not above 20000 is 16807, 7 to the 5th.
        for p, most in ((5, 6), (7, 5), (11, 4), (13, 3)):
            self.assertTrue(p ** most <= 20000 < p ** (most + 1))
            for used in (most + 1, 8):
                check_error(self, (TooMany, "most", 20000), share_views, p, 2, 1, (OWN[0],) * used, (0, 0), (0,))
            views = share_views(p, 2, 1, (OWN[0],) * most, (0, 0), (0,))
            self.assertEqual(sum(views.values()), p ** most)
        check_error(self, (TooMany, "most", 20000), share_views, 5, 4, 1, TIMES + (("times", 0, 1),), (0,) * 4, (0,))
        check_error(self, (TooMany, "most", 20000), share_views, 13, 3, 1, TIMES, (0,) * 3, (0,))
        self.assertEqual(sum(share_views(5, 4, 1, TIMES, (0,) * 4, (0,)).values()), 5 ** 6)

    def test_too_many_comes_behind_too_few(self):
        eight = (OWN[0],) * 8
        check_error(self, (TooMany, "most", 20000), share_views, 5, 3, 2, eight, (0, 0, 0), (0,))
        check_error(self, TooFew, share_views, 5, 2, 2, eight, (0, 0), (0,))
        check_error(self, TooFew, share_views, 5, 2, 1, eight[:7] + (("times", 0, 0),), (0, 0), (0,))
        check_error(self, BadLot, share_views, 5, 3, 2, eight, (0, 0, 0), (3,))


class ByShares(unittest.TestCase):
    def check(self, p, many, size, sheet, things, coins, weights):
        answer, deals = by_shares(p, many, size, sheet, things, coins)
        told, shares = plain_shares(p, many, size, sheet, things, coins, weights)
        self.assertEqual(answer, sheet_value(p, many, sheet, things))
        self.assertEqual(answer, rebuilt(p, tuple(enumerate(shares, 1))))
        self.assertEqual(deals, tuple(tuple(own for _, own in sorted(row.items())) for row in told))

    def test_all_coins_of_small_sheets(self):
        for p, many, size, sheet in (
            (5, 2, 1, PLAIN), (5, 3, 2, (OWN[2], ("number", 12), ("sum", 0, 1))), (5, 3, 1, TIMES),
            (7, 3, 1, (OWN[1], ("times", 0, 0))), (5, 3, 1, (("number", 2), ("number", 7), ("times", 0, 1))),
            (13, 2, 1, (OWN[0], ("sum", 0, 0), ("number", 12), OWN[1], ("sum", 1, 2))),
        ):
            weights = plain_weights(p, many)
            chance = random.Random(p)
            for coins in product(range(p), repeat=count_coins(many, size, sheet)):
                things = tuple(chance.randrange(p) for _ in range(many))
                self.check(p, many, size, sheet, things, coins, weights)

    def test_by_chance(self):
        chance = random.Random(2)
        weights = {(p, many): plain_weights(p, many) for p, many in product(PRIMES, (2, 3, 4))}
        kinds = {}
        for _ in range(1500):
            p, many, size = chance.choice(PRIMES), chance.randint(2, 4), chance.randint(1, 2)
            sheet = some_sheet(chance, many, chance.randint(1, 8), ("own", "own", "number", "sum", "times", "sum"))
            if type(error_of(count_coins, many, size, sheet)) is TooFew:
                continue
            things = tuple(chance.randrange(p) for _ in range(many))
            coins = tuple(chance.randrange(p) for _ in range(count_coins(many, size, sheet)))
            self.check(p, many, size, sheet, things, coins, weights[p, many])
            kinds[many, size] = kinds.get((many, size), 0) + 1
        self.assertEqual(set(kinds), {(2, 1), (3, 1), (3, 2), (4, 1), (4, 2)})

    def test_by_hand(self):
        # By 5, of two people: 3 + 1 z at 1 and 2, and 4 + 2 z.
        self.assertEqual(by_shares(5, 2, 1, PLAIN, (3, 4), (1, 2)), (2, (((4, 0),), ((1, 3),))))
        self.assertEqual(by_shares(5, 2, 1, (("number", 8),), (0, 0), ()), (3, ()))
        # Shares of the one are 1, 2, 3, of the other 2, 2, 2: of the product 2, 4, 6, dealt anew by 1 z, 0 z, 2 z.
        self.assertEqual(
            by_shares(7, 3, 1, TIMES, (0, 2, 5), (1, 0, 1, 0, 2)),
            (0, (((1, 2, 3),), ((2, 2, 2),), ((3, 4, 5), (4, 4, 4), (1, 3, 5)))),
        )

    def test_two_coins(self):
        # 1 + 2 z + 3 z z by 11.
        self.assertEqual(by_shares(11, 3, 2, (OWN[2],), (0, 0, 1), (2, 3)), (1, (((6, 6, 1),),)))

    def test_a_person_may_deal_often(self):
        sheet = (OWN[1], OWN[1], ("sum", 0, 1))
        self.assertEqual(by_shares(5, 2, 1, sheet, (0, 3), (0, 1)), (1, (((3, 3),), ((4, 0),))))


class CountCoins(unittest.TestCase):
    def test_by_chance(self):
        chance = random.Random(3)
        for _ in range(500):
            many, size = chance.randint(2, 4), chance.randint(1, 2)
            sheet = some_sheet(chance, many, chance.randint(1, 8), ("own", "number", "sum", "times", "sum", "number"))
            kinds = Counter(row[0] for row in sheet)
            if (2 * size if kinds["times"] else size) < many:
                self.assertEqual(count_coins(many, size, sheet), size * (kinds["own"] + many * kinds["times"]))
            else:
                check_error(self, TooFew, count_coins, many, size, sheet)


class ShareViews(unittest.TestCase):
    def test_by_all_coins(self):
        for p, many, size, sheet in (
            (5, 2, 1, PLAIN), (5, 3, 1, TIMES), (5, 3, 2, PLAIN),
            (7, 4, 1, (OWN[3], ("sum", 0, 0), OWN[0], ("sum", 1, 2))),
            (5, 3, 1, (OWN[1], ("number", 3), ("times", 0, 1))), (11, 2, 1, (("number", 12), OWN[1], ("sum", 0, 1))),
        ):
            weights = plain_weights(p, many)
            things = tuple(range(2, 2 + many))
            rows = [
                plain_shares(p, many, size, sheet, things, coins, weights)
                for coins in product(range(p), repeat=count_coins(many, size, sheet))
            ]
            for lot in plain_lots(many):
                expected = Counter(plain_view(deals, shares, lot) for deals, shares in rows)
                self.assertEqual(share_views(p, many, size, sheet, things, lot), dict(expected))

    def test_by_hand(self):
        # 3 + c z, of person 0, and the last row's shares; person 1 sees what it gets.
        self.assertEqual(share_views(5, 2, 1, (OWN[0],), (3, 0), (1,)), {
            ((((None, (3 + 2 * c) % 5),),), ((3 + c) % 5, (3 + 2 * c) % 5)): 1 for c in range(5)
        })
        self.assertEqual(share_views(5, 2, 1, (OWN[0],), (3, 0), (0,)), {
            (((((3 + c) % 5, (3 + 2 * c) % 5),),), ((3 + c) % 5, (3 + 2 * c) % 5)): 1 for c in range(5)
        })
        self.assertEqual(share_views(5, 2, 1, (("number", 9),), (3, 0), (0,)), {((), (4, 4)): 1})

    def test_what_others_deal_to_themselves_is_not_seen(self):
        for (deals, _), often in share_views(5, 3, 1, TIMES, (1, 2, 3), (2,)).items():
            own, other, anew = deals
            self.assertEqual([own[0][:2], other[0][:2], anew[0][:2], anew[1][:2]], [(None, None)] * 4)
            self.assertNotIn(None, (own[0][2], other[0][2], anew[0][2], anew[1][2]) + anew[2])
            self.assertGreater(often, 0)

    def test_small_lots_see_no_more(self):
        for p, many, size, sheet in (
            (5, 3, 1, (OWN[0], OWN[1], OWN[2], ("sum", 0, 1), ("sum", 3, 2))), (5, 2, 1, PLAIN), (5, 3, 2, PLAIN),
            (5, 3, 1, (OWN[0], ("times", 0, 0))), (5, 4, 1, (OWN[3], ("sum", 0, 0), OWN[1], ("sum", 1, 2))),
        ):
            for lot in plain_lots(many):
                if len(lot) <= size:
                    self.check_no_more(p, many, size, sheet, lot)

    def test_small_lots_see_no_more_of_a_product(self):
        for things in ((1, 4, 0), (2, 2, 0), (3, 3, 0), (4, 1, 0)):
            self.assertEqual(
                share_views(5, 3, 1, TIMES, things, (2,)), share_views(5, 3, 1, TIMES, (1, 4, 0), (2,)),
            )
        self.assertNotEqual(share_views(5, 3, 1, TIMES, (1, 3, 0), (2,)), share_views(5, 3, 1, TIMES, (1, 4, 0), (2,)))

    def check_no_more(self, p, many, size, sheet, lot):
        first = {}
        for things in product(*[(2,) if person in lot else range(p) for person in range(many)]):
            views = share_views(p, many, size, sheet, things, lot)
            self.assertEqual(first.setdefault(sheet_value(p, many, sheet, things), views), views)

    def test_greater_lots_see_more(self):
        one, other = (share_views(5, 3, 1, PLAIN, things, (1, 2)) for things in ((1, 2, 0), (3, 0, 0)))
        self.assertNotEqual(one, other)

    def test_dicts_are_new_each_time(self):
        views = share_views(5, 2, 1, PLAIN, (1, 2), (0,))
        again = dict(views)
        views.clear()
        self.assertEqual(share_views(5, 2, 1, PLAIN, (1, 2), (0,)), again)


if __name__ == "__main__":
    unittest.main()
