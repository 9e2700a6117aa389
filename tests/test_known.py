import unittest

from nomoretold.classtalks import class_talk, fewest_turns
from nomoretold.errors import BadNumber
from nomoretold.fewwords import fewest_words
from nomoretold.judging import judged
from nomoretold.knots import can_be_told
from nomoretold.known import first_price, greater_one, richer, same, second_price, sums
from nomoretold.tables import is_table, part_table
from support import WRONG_TABLES, error_of, plain_parts, told_table

OF_ONE = [richer, same, greater_one, first_price, second_price]
# No one of these is a number from 1 to 12.
WRONG_NUMBERS = [value for value in WRONG_TABLES if value is True or value not in (1, 6)]


class Examples(unittest.TestCase):
    def test_the_example(self):
        self.assertEqual(
            [richer(2), same(2), greater_one(2), sums(2, 3), first_price(2), second_price(2)],
            [((0, 0), (1, 0)), ((1, 0), (0, 1)), ((0, 1), (1, 1)), ((0, 1), (1, 2)), ((0, 3), (2, 2)),
             ((0, 1), (0, 2))],
        )


class Tables(unittest.TestCase):
    def test_one_thing(self):
        self.assertEqual([known(1) for known in OF_ONE], [((0,),), ((1,),), ((0,),), ((0,),), ((0,),)])
        for m in range(1, 13):
            self.assertEqual(sums(1, m), ((0,),))

    def test_six_things(self):
        self.assertEqual(richer(6), (
            (0, 0, 0, 0, 0, 0), (1, 0, 0, 0, 0, 0), (1, 1, 0, 0, 0, 0),
            (1, 1, 1, 0, 0, 0), (1, 1, 1, 1, 0, 0), (1, 1, 1, 1, 1, 0),
        ))
        self.assertEqual(same(6), (
            (1, 0, 0, 0, 0, 0), (0, 1, 0, 0, 0, 0), (0, 0, 1, 0, 0, 0),
            (0, 0, 0, 1, 0, 0), (0, 0, 0, 0, 1, 0), (0, 0, 0, 0, 0, 1),
        ))
        self.assertEqual(greater_one(6), (
            (0, 1, 2, 3, 4, 5), (1, 1, 2, 3, 4, 5), (2, 2, 2, 3, 4, 5),
            (3, 3, 3, 3, 4, 5), (4, 4, 4, 4, 4, 5), (5, 5, 5, 5, 5, 5),
        ))
        self.assertEqual(first_price(6), (
            (0, 3, 5, 7, 9, 11), (2, 2, 5, 7, 9, 11), (4, 4, 4, 7, 9, 11),
            (6, 6, 6, 6, 9, 11), (8, 8, 8, 8, 8, 11), (10, 10, 10, 10, 10, 10),
        ))
        self.assertEqual(second_price(6), (
            (0, 1, 1, 1, 1, 1), (0, 2, 3, 3, 3, 3), (0, 2, 4, 5, 5, 5),
            (0, 2, 4, 6, 7, 7), (0, 2, 4, 6, 8, 9), (0, 2, 4, 6, 8, 10),
        ))

    def test_sums(self):
        self.assertEqual(sums(6, 1), ((0,) * 6,) * 6)
        self.assertEqual(sums(6, 12)[5], (5, 6, 7, 8, 9, 10))
        self.assertEqual(sums(6, 4), (
            (0, 1, 2, 3, 0, 1), (1, 2, 3, 0, 1, 2), (2, 3, 0, 1, 2, 3),
            (3, 0, 1, 2, 3, 0), (0, 1, 2, 3, 0, 1), (1, 2, 3, 0, 1, 2),
        ))

    def test_smaller_ones_are_parts_of_greater_ones(self):
        for n in range(1, 7):
            things = tuple(range(n))
            for known in OF_ONE:
                self.assertIs(is_table(known(n)), True)
                self.assertEqual(known(n), part_table(known(6), (things, things)))
            for m in range(1, 13):
                self.assertIs(is_table(sums(n, m)), True)
                self.assertEqual(sums(n, m), part_table(sums(6, m), (things, things)))
                self.assertEqual(sums(n, m), tuple(tuple(divmod(x + y, m)[1] for y in range(n)) for x in range(n)))


class WrongNumbers(unittest.TestCase):
    def test_bad_number(self):
        for value in WRONG_NUMBERS + [0, 7, -1, 13, True, False, "1", (1,), [1], 10 ** 5000]:
            for known in OF_ONE:
                self.assertIs(type(error_of(known, value)), BadNumber)
            for m in (1, 12, value):
                self.assertIs(type(error_of(sums, value, m)), BadNumber)

    def test_bad_number_for_the_rest(self):
        for value in WRONG_NUMBERS:
            self.assertIs(type(error_of(sums, 0, value)), BadNumber)
        for value in WRONG_NUMBERS + [0, 13, -1, 99, True, False, "1", (1,), [1], 10 ** 5000]:
            for n in (1, 6):
                self.assertIs(type(error_of(sums, n, value)), BadNumber)

    def test_numbers_at_their_bounds(self):
        for n in range(-3, 16):
            for known in OF_ONE:
                self.assertIs(error_of(known, n) is None, 1 <= n <= 6)
            for m in range(-3, 20):
                self.assertIs(error_of(sums, n, m) is None, 1 <= n <= 6 and 1 <= m <= 12)


class WhatHolds(unittest.TestCase):
    def test_which_can_be_told(self):
        for n in range(1, 7):
            self.assertIs(can_be_told(richer(n)), n == 1)
            self.assertIs(can_be_told(greater_one(n)), n == 1)
            self.assertIs(can_be_told(same(n)), n <= 2)
            self.assertIs(can_be_told(first_price(n)), True)
            self.assertIs(can_be_told(second_price(n)), True)
            for m in range(1, 13):
                self.assertIs(can_be_told(sums(n, m)), True)

    def test_those_that_can_be_told_are_told(self):
        for n in range(1, 7):
            for table in [first_price(n), second_price(n)] + [sums(n, m) for m in range(1, 13)]:
                self.assertIsNone(judged(table, class_talk(table)))

    def test_turns_of_first_price(self):
        for n in range(1, 7):
            self.assertEqual(fewest_turns(first_price(n)), 2 * n - 2)

    def test_parts_need_no_more_turns_and_words(self):
        tables = [told_table(3, 3, seed) for seed in range(12)] + [told_table(4, 3, 1), told_table(2, 5, 2)]
        for table in tables + [first_price(4), second_price(4), sums(4, 3)]:
            turns, words = fewest_turns(table), fewest_words(table)
            for part in plain_parts(table):
                some = part_table(table, part)
                self.assertIs(can_be_told(some), True)
                self.assertLessEqual(fewest_turns(some), turns)
                self.assertLessEqual(fewest_words(some), words)


if __name__ == "__main__":
    unittest.main()
