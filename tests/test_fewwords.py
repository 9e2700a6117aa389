import copy
import random
import unittest
from fractions import Fraction
from math import gcd

from nomoretold.classtalks import class_talk
from nomoretold.errors import BadOdds, Knotted
from nomoretold.fewwords import fewest_words, least_mean, mean_words, word_talk
from nomoretold.judging import judged
from nomoretold.knots import least_knot
from nomoretold.talks import is_talk
from support import (
    WRONG_INTEGERS, WRONG_TABLES, WRONG_VALUES, error_of, plain_answers, plain_least_knot, random_tables, told_table,
)
from talking import (
    BIDS, BY_RIGHT, EITHER, all_chances, all_halves, check_bad_table, check_bad_talk, end, plain_things, say,
    some_talk, whole,
)

ALL_UNLIKE = tuple(tuple(range(6 * x, 6 * x + 6)) for x in range(6))

# What is no odds of a table of two rows and three columns.
WRONG_ODDS = WRONG_VALUES + WRONG_INTEGERS + WRONG_TABLES + [
    (), ((1, 1),), ((1, 1), (1, 1, 1), (1,)), [(1, 1), (1, 1, 1)], ([1, 1], (1, 1, 1)), ((1, 1), [1, 1, 1]),
    ((1,), (1, 1, 1)), ((1, 1, 1), (1, 1, 1)), ((1, 1), (1, 1)), ((1, 1), (1, 1, 1, 1)), ((1, 1, 1), (1, 1)),
    ((), (1, 1, 1)), ((1, 1), ()), ((0, 0), (1, 1, 1)), ((1, 1), (0, 0, 0)), ((0, 0), (0, 0, 0)),
    ((-1, 1), (1, 1, 1)), ((1, 100), (1, 1, 1)), ((1, 1), (1, -1, 1)), ((1, 1), (1, 1, 100)),
    ((True, 1), (1, 1, 1)), ((1, 1), (1, False, 1)), ((1, None), (1, 1, 1)), ((1, 1), (1, "1", 1)),
    ((1, (1,)), (1, 1, 1)), ((1, 1), (1, 1, [1])), ("11", (1, 1, 1)), ((1, 1), "111"), ({0: 1, 1: 1}, (1, 1, 1)),
    ((10 ** 5000, 1), (1, 1, 1)), (None, (1, 1, 1)), ((1, 1), None), (1, 1),
]


def plain_partings(table, part):
    """The pairs of parts to which one word may part a part, so that no like answers fall apart."""
    rows, columns = part
    for one, other in all_halves(rows):
        if not any(table[a][y] == table[b][y] for a in one for b in other for y in columns):
            yield (one, columns), (other, columns)
    for one, other in all_halves(columns):
        if not any(table[x][a] == table[x][b] for a in one for b in other for x in rows):
            yield (rows, one), (rows, other)


def plain_fewest_words(table, part):
    if len(plain_answers(table, part)) == 1:
        return 0
    found = []
    for parts in plain_partings(table, part):
        lower = [plain_fewest_words(table, below) for below in parts]
        if None not in lower:
            found.append(1 + max(lower))
    return min(found, default=None)


def plain_weight(odds, part):
    return sum(odds[0][x] * odds[1][y] for x in part[0] for y in part[1])


def plain_least_mean(table, odds, part):
    """The least mean, not yet by the weight of the whole."""
    if len(plain_answers(table, part)) == 1:
        return 0
    found = []
    for parts in plain_partings(table, part):
        lower = [plain_least_mean(table, odds, below) for below in parts]
        if None not in lower:
            found.append(plain_weight(odds, part) + sum(lower))
    return min(found, default=None)


def plain_mean_words(table, talk, odds):
    pairs = all_chances(table, talk)
    whole_weight = sum(odds[0][x] * odds[1][y] for x, y in pairs)
    return sum(
        Fraction(odds[0][x] * odds[1][y], whole_weight) * chance * len(way)
        for (x, y), coming in pairs.items() for way, chance in coming.items()
    )


def some_odds(chance, table, most=99):
    """Odds by chance, some of them 0."""
    odds = []
    for many in (len(table), len(table[0])):
        row = [chance.choice((0, 1, chance.randint(0, most))) for _ in range(many)]
        row[chance.randrange(many)] = chance.randint(1, most)
        odds.append(tuple(row))
    return tuple(odds)


def small_tables():
    told = [told_table(1 + seed % 4, 1 + seed // 4 % 4, seed) for seed in range(100)]
    return told + [table for table in random_tables(150, 9, 1) if len(table) <= 4 and len(table[0]) <= 4]


class Examples(unittest.TestCase):
    def test_the_example(self):
        self.assertEqual(
            [fewest_words(BIDS), judged(BIDS, word_talk(BIDS)), mean_words(BIDS, class_talk(BIDS), ((1, 1), (1, 1))),
             least_mean(BIDS, ((3, 1), (1, 0)))],
            [2, None, (3, 2), (7, 4)],
        )


class FewestWords(unittest.TestCase):
    def check_talk(self, table, talk, words):
        self.assertIs(is_talk(table, talk), True)
        self.assertIsNone(judged(table, talk))
        ways = [way for coming in all_chances(table, talk).values() for way in coming]
        self.assertEqual(max(map(len, ways)), words)
        for thing in plain_things(talk).values():
            if thing[0] == "say":
                self.assertLessEqual(len(thing[2]), 2)
                for weights in zip(*[weights for weights, _ in thing[2]]):
                    self.assertEqual(sorted(weights), [0] * (len(weights) - 1) + [1])

    def check(self, table, words):
        self.assertEqual(fewest_words(table), words)
        if words is None:
            error = error_of(word_talk, table)
            self.assertIs(type(error), Knotted)
            self.assertEqual(error.part, plain_least_knot(table))
        else:
            self.check_talk(table, word_talk(table), words)

    def test_by_hand(self):
        self.check(((4,),), 0)
        self.check(((4, 4), (4, 4)), 0)
        self.check(((4, 5),), 1)
        self.check(((4, 5, 6),), 2)
        self.check(((0, 1, 2, 3, 4),), 3)
        self.check(((0,), (1,), (2,), (3,)), 2)
        self.check(EITHER, None)
        # No pair of things goes more than 6 places, the fewest for 36 answers.
        self.check(ALL_UNLIKE, 6)

    def test_not_all_classes_at_once(self):
        # Left parts row 0 from both others first: there right needs two words more.
        table = ((0, 1, 2, 3), (4, 4, 4, 4), (5, 5, 5, 5))
        self.check(table, 3)
        self.assertEqual(plain_fewest_words(table, whole(table)), 3)

    def test_by_all_partings(self):
        kinds = set()
        for table in small_tables():
            words = plain_fewest_words(table, whole(table))
            kinds.add(words)
            self.check(table, words)
        self.assertTrue({None, 0, 1, 2, 3, 4} <= kinds)

    def test_greater_tables(self):
        for seed in range(15):
            table = told_table(5 + seed % 2, 6 - seed // 2 % 2, seed)
            words = fewest_words(table)
            self.check_talk(table, word_talk(table), words)
            self.assertTrue(2 ** words >= len(plain_answers(table, whole(table))))

    def test_knotted_with_the_least_knot(self):
        for table in random_tables(100, 4, 2):
            if least_knot(table) is not None:
                self.check(table, None)


class MeanWords(unittest.TestCase):
    def test_by_hand(self):
        ones = ((1, 1), (1, 1))
        self.assertEqual(mean_words(BIDS, end(0), ones), (0, 1))
        self.assertEqual(mean_words(BIDS, say("left", ((1, 1), end(0))), ones), (1, 1))
        low = say("left", ((1, 0), end(0)), ((0, 1), say("right", ((1, 1), end(0)))))
        self.assertEqual(mean_words(BIDS, low, ones), (3, 2))
        self.assertEqual(mean_words(BIDS, low, ((3, 1), (1, 0))), (5, 4))
        self.assertEqual(mean_words(BIDS, low, ((0, 99), (99, 0))), (2, 1))
        self.assertEqual(mean_words(BIDS, low, ((99, 0), (0, 1))), (1, 1))

    def test_coins_count_by_their_chances(self):
        long = say("right", ((1, 1), say("right", ((1, 1), end(0)))))
        talk = say("left", ((1, 5), end(0)), ((2, 1), long))
        self.assertEqual(mean_words(BIDS, talk, ((1, 0), (1, 1))), (7, 3))
        self.assertEqual(mean_words(BIDS, talk, ((0, 1), (1, 1))), (4, 3))
        self.assertEqual(mean_words(BIDS, talk, ((1, 2), (1, 1))), (5, 3))

    def test_by_chance(self):
        chance = random.Random(3)
        for table in random_tables(120, 4, 3):
            for plain in (False, True):
                talk, odds = some_talk(chance, table, 3, plain), some_odds(chance, table)
                mean = plain_mean_words(table, talk, odds)
                self.assertEqual(mean_words(table, talk, odds), (mean.numerator, mean.denominator))

    def test_a_long_way(self):
        talk = end(0)
        for _ in range(40):
            talk = say("right", ((999, 1), talk), ((1, 998), end(1)))
        mean = plain_mean_words(BIDS, talk, ((98, 99), (99, 1)))
        self.assertEqual(mean_words(BIDS, talk, ((98, 99), (99, 1))), (mean.numerator, mean.denominator))


class LeastMean(unittest.TestCase):
    def check(self, table, odds):
        least = least_mean(table, odds)
        plain = plain_least_mean(table, odds, whole(table))
        if plain is None:
            self.assertIsNone(least)
            return
        mean = Fraction(plain, plain_weight(odds, whole(table)))
        self.assertEqual(least, (mean.numerator, mean.denominator))
        self.assertEqual(gcd(*least), 1)
        self.assertTrue(least[1] > 0)
        self.assertTrue(mean <= Fraction(*mean_words(table, word_talk(table), odds)))

    def test_by_hand(self):
        self.assertEqual(least_mean(((4, 4),), ((1,), (1, 1))), (0, 1))
        self.assertEqual(least_mean(((4, 5),), ((1,), (1, 0))), (1, 1))
        # The oftener a thing comes, the earlier it is told.
        self.assertEqual(least_mean(((0, 1, 2, 3),), ((1,), (1, 1, 1, 1))), (2, 1))
        self.assertEqual(least_mean(((0, 1, 2, 3),), ((7,), (5, 2, 1, 1))), (5, 3))
        self.assertEqual(least_mean(((0, 1, 2, 3),), ((7,), (0, 99, 0, 0))), (1, 1))
        self.assertIsNone(least_mean(EITHER, ((1, 1), (1, 1))))

    def test_a_thing_that_never_comes_is_told_all_the_same(self):
        # Right never holds 1, but must say so, where left holds 0.
        self.assertEqual(least_mean(BIDS, ((1, 0), (1, 0))), (2, 1))
        self.assertEqual(least_mean(BIDS, ((0, 1), (1, 0))), (1, 1))

    def test_by_all_partings(self):
        chance = random.Random(4)
        for table in small_tables():
            self.check(table, some_odds(chance, table))
            self.check(table, some_odds(chance, table, 3))
        self.check(BY_RIGHT, ((1, 1, 1), (1, 1, 1)))

    def test_the_greatest_tables(self):
        self.assertEqual(least_mean(ALL_UNLIKE, ((99,) * 6, (99,) * 6)), (16, 3))
        self.assertEqual(least_mean(ALL_UNLIKE, ((99, 0, 0, 0, 0, 0), (0, 0, 0, 0, 0, 99))), (2, 1))


class WrongInputs(unittest.TestCase):
    WIDE = ((0, 0, 1), (2, 2, 1))

    def test_bad_table(self):
        for call in (fewest_words, word_talk):
            check_bad_table(self, call)
        check_bad_table(self, mean_words, end(0), ((1,), (1,)))
        check_bad_table(self, least_mean, ((1,), (1,)))

    def test_bad_talk(self):
        check_bad_talk(self, mean_words, ((1, 1), (1, 1, 1)))

    def test_bad_odds(self):
        for odds in WRONG_ODDS:
            self.assertIs(type(error_of(mean_words, self.WIDE, end(0), odds)), BadOdds)
            self.assertIs(type(error_of(least_mean, self.WIDE, odds)), BadOdds)
            # Also where there is no talk.
            self.assertIs(type(error_of(least_mean, ((0, 0, 0), (0, 1, 1)), odds)), BadOdds)

    def test_odds_at_their_bounds(self):
        for odd in range(-3, 105):
            for odds in (((1, odd), (1, 1, 1)), ((1, 1), (odd, 1, 1))):
                error = error_of(mean_words, self.WIDE, end(0), odds)
                self.assertIs(error is None, 0 <= odd <= 99)

    def test_nothing_handed_in_is_changed(self):
        for odds in WRONG_ODDS:
            before = copy.deepcopy(odds)
            error_of(mean_words, self.WIDE, end(0), odds)
            error_of(least_mean, self.WIDE, odds)
            self.assertEqual(odds, before)

    def test_equal_calls_have_equal_answers(self):
        tables = small_tables()[:60]
        first = [(fewest_words(table), error_of(word_talk, table) or word_talk(table)) for table in tables]
        again = [(fewest_words(table), error_of(word_talk, table) or word_talk(table)) for table in tables[::-1]]
        self.assertEqual(list(map(str, first)), list(map(str, again[::-1])))


if __name__ == "__main__":
    unittest.main()
