import random
import unittest
from collections import Counter
from itertools import product

from nomoretold.errors import BadBits, BadCoins, BadLot, BadNumber
from nomoretold.masks import mask_views, masked, masks_tell_no_more
from support import WRONG_INTEGERS, WRONG_VALUES, check_error, check_order, error_of, nested, plain_lots

WRONG_BITS = WRONG_VALUES + WRONG_INTEGERS + [
    (), (0,), (1,), (0, 1, 0, 1, 0), (0,) * 6, [0, 1], "01", ("0", "1"), (0, 2), (-1, 0), (0, True), (False, 0),
    (True, True),
    (0, None), ((0,), 1), (0, [1]), (0, 10 ** 5000), (0, 1, 2), (0, nested("list", 199)), {0: 0, 1: 1},
]
# No coins of two people.
WRONG_COINS = WRONG_VALUES + WRONG_INTEGERS + [
    (), ((0,),), ((0,), (0,), (0,)), ((0, 0), (0, 0)), ((0, 0), (0,)), ((0,), (0, 0)), ((), ()), ((0,), ()), (0, 0),
    [(0,), (0,)], ((0,), [0]), ([0], (0,)), ((0,), "0"), ("0", "0"), "00", ((0,), (2,)), ((-1,), (0,)), ((True,), (0,)),
    ((0,), (False,)), ((0,), (None,)), ((0,), ("0",)), ((0,), ((0,),)), ((0,), (10 ** 5000,)), ((0,), {0: 0}),
    ((0,), (nested("list", 198),)),
]
# No lots of two people; none of three either, but for those with person 2.
WRONG_LOTS = [value for value in WRONG_VALUES + WRONG_INTEGERS if value != ()] + [
    (2,), (0, 2), (0, 1, 2), (3,), (-1,), (-1, 0), (1, 0), (0, 0), (1, 1), (0, 1, 1), [0], [], [0, 1], "0", "", {},
    (True,), (False,),
    (0, True), (False, 1), ("0",), (None,), (0, None), ((0,),), (0, (1,)), (10 ** 5000,), 0, (nested("tuple", 199),),
]


def all_coins(many):
    return [
        tuple(coins[k * (many - 1):(k + 1) * (many - 1)] for k in range(many))
        for coins in product((0, 1), repeat=many * (many - 1))
    ]


def plain_masks(bits, coins):
    """What goes from person to person, by pairs of them, what each keeps, and the sums told."""
    people = range(len(bits))
    dealt = {}
    for person in people:
        others = [other for other in people if other != person]
        dealt.update({(person, other): coin for other, coin in zip(others, coins[person])})
    kept = [(bits[i] + sum(dealt[i, j] for j in people if j != i)) % 2 for i in people]
    told = [(kept[i] + sum(dealt[j, i] for j in people if j != i)) % 2 for i in people]
    return dealt, kept, tuple(told)


def plain_views(bits, lot):
    found = Counter()
    people = range(len(bits))
    for coins in all_coins(len(bits)):
        dealt, kept, told = plain_masks(bits, coins)
        gives = tuple(tuple(kept[i] if i == j else dealt[i, j] for j in people) for i in lot)
        gets = tuple(tuple(dealt[j, i] for j in people if j not in lot) for i in lot)
        found[gives, gets, told] += 1
    return dict(found)


def all_bits(many):
    return list(product((0, 1), repeat=many))


class Examples(unittest.TestCase):
    def test_the_example(self):
        self.assertEqual(
            [masked((1, 0), ((1,), (0,))), masks_tell_no_more(3, (0, 1)), sum(mask_views((1, 0, 1), (0,)).values())],
            [(((0, 1), (0, 0)), (0, 1)), True, 64],
        )


class Masked(unittest.TestCase):
    def check(self, bits, coins):
        dealt, kept, told = plain_masks(bits, coins)
        given, sums = masked(bits, coins)
        people = range(len(bits))
        self.assertEqual(given, tuple(tuple(kept[i] if i == j else dealt[i, j] for j in people) for i in people))
        self.assertEqual(sums, told)
        # All tell together what they want to find out, and each bit is parted whole.
        self.assertEqual(sum(sums) % 2, sum(bits) % 2)
        self.assertEqual([sum(own) % 2 for own in given], list(bits))

    def test_two_and_three_people_by_all_coins(self):
        for many in (2, 3):
            for bits, coins in product(all_bits(many), all_coins(many)):
                self.check(bits, coins)

    def test_four_people(self):
        for coins in all_coins(4)[::5]:
            for bits in ((0, 0, 0, 0), (1, 0, 1, 1), (0, 1, 0, 0)):
                self.check(bits, coins)

    def test_by_hand(self):
        self.assertEqual(
            masked((1, 0, 1), ((1, 0), (0, 1), (1, 1))),
            (((0, 1, 0), (0, 1, 1), (1, 1, 1)), (1, 1, 0)),
        )

    def test_bad_bits(self):
        check_order(self, masked, [(0, 1), ((0,), (0,))], [[(value, BadBits) for value in WRONG_BITS]])

    def test_bad_coins(self):
        for value in WRONG_COINS:
            check_error(self, BadCoins, masked, (0, 1), value)
        for many, others in product((2, 3, 4), (2, 3, 4)):
            error = error_of(masked, (0,) * many, ((0,) * (others - 1),) * others)
            self.assertIs(error is None, many == others)
            error = error_of(masked, (0,) * many, ((0,) * (others - 1),) * many)
            self.assertIs(error is None, many == others)


class MaskViews(unittest.TestCase):
    def test_two_and_three_people_by_all_coins(self):
        for many in (2, 3):
            for bits, lot in product(all_bits(many), [()] + plain_lots(many)):
                self.assertEqual(mask_views(bits, lot), plain_views(bits, lot))

    def test_four_people_by_all_coins(self):
        chance = random.Random(1)
        for lot in [()] + plain_lots(4):
            bits = tuple(chance.choice((0, 1)) for _ in range(4))
            self.assertEqual(mask_views(bits, lot), plain_views(bits, lot))
            self.assertEqual(sum(mask_views(bits, lot).values()), 4096)

    def test_no_lot_hears_the_sums_alone(self):
        self.assertEqual(mask_views((1, 0), ()), {((), (), (1, 0)): 2, ((), (), (0, 1)): 2})

    def test_all_people_see_all(self):
        views = mask_views((1, 0), (0, 1))
        self.assertEqual(views, {
            (given, ((), ()), sums): 1 for given, sums in (masked((1, 0), coins) for coins in all_coins(2))
        })

    def test_one_of_two(self):
        self.assertEqual(mask_views((1, 0), (0,)), {
            (((1, 0),), ((0,),), (1, 0)): 1, (((1, 0),), ((1,),), (0, 1)): 1,
            (((0, 1),), ((0,),), (0, 1)): 1, (((0, 1),), ((1,),), (1, 0)): 1,
        })

    def test_wrong_values(self):
        check_order(
            self, mask_views, [(0, 1), (0,)],
            [[(value, BadBits) for value in WRONG_BITS], [(value, BadLot) for value in WRONG_LOTS]],
        )

    def test_people_in_a_lot(self):
        for many in (2, 3, 4):
            for lot in [()] + plain_lots(5):
                error = error_of(mask_views, (0,) * many, lot)
                self.assertIs(type(error), type(None) if all(person < many for person in lot) else BadLot)

    def test_dicts_are_new_each_time(self):
        views = mask_views((1, 0), (0,))
        again = dict(views)
        views.clear()
        self.assertEqual(mask_views((1, 0), (0,)), again)


class TellNoMore(unittest.TestCase):
    def check(self, many, lot):
        first = {}
        for bits in all_bits(many):
            views = mask_views(bits, lot)
            own = tuple(bits[person] for person in lot)
            # Where no more is told, bits that are alike in the lot have like views just if the sums are alike.
            self.assertEqual(first.setdefault((own, sum(bits) % 2), views), views)
            if len(lot) < many:
                self.assertNotEqual(first.get((own, (sum(bits) + 1) % 2)), views)
        self.assertIs(masks_tell_no_more(many, lot), True)

    def test_two_and_three_people(self):
        for many in (2, 3):
            for lot in [()] + plain_lots(many):
                self.check(many, lot)

    def test_four_people(self):
        for lot in ((), (2,), (1, 3), (0, 1, 2), (0, 1, 2, 3)):
            self.check(4, lot)

    def test_wrong_values(self):
        numbers = [(value, BadNumber) for value in WRONG_VALUES + WRONG_INTEGERS + [0, 1, 5, -2, (2,), "2", True]]
        check_order(self, masks_tell_no_more, [2, (0,)], [numbers, [(value, BadLot) for value in WRONG_LOTS]])

    def test_bounds(self):
        for many in range(-1, 7):
            for lot in ((), (1,), (2,), (3,), (0, 3)):
                told = None if 2 <= many <= 4 else BadNumber
                if told is None and any(person >= many for person in lot):
                    told = BadLot
                if many < 4 or lot == (3,) or told:
                    self.assertIs(type(error_of(masks_tell_no_more, many, lot)), told or type(None))


if __name__ == "__main__":
    unittest.main()
