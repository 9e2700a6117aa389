import random
import unittest
from itertools import product as all_of

from nomoretold.errors import BadNumber, BadTable, TooGreat, Unlike
from nomoretold.knots import can_be_told
from nomoretold.made import both, count_told, product, side_by_side
from nomoretold.tables import is_table, part_table
from support import (
    WRONG_TABLES, WRONG_VALUES, check_error, check_order, error_of, plain_least_knot, random_tables, told_table,
)

ONE = ((0,),)


def tables_of(rows, columns, many):
    """All tables of so many rows and columns with answers below many."""
    for answers in all_of(range(many), repeat=rows * columns):
        yield tuple(answers[x * columns:(x + 1) * columns] for x in range(rows))


def plain_numbers(pairs):
    """The numbers of the pairs, which are told by things: for each the count of unlike lesser ones."""
    return {things: len({other for other in pairs.values() if other < pair}) for things, pair in pairs.items()}


def as_cells(table):
    return {(x, y): answer for x, row in enumerate(table) for y, answer in enumerate(row)}


def sized(rows, columns, first=0):
    """A table of so many rows and columns."""
    return tuple(tuple((first + x * columns + y) % 100 for y in range(columns)) for x in range(rows))


SIZES = list(all_of(range(1, 7), range(1, 7)))


class Examples(unittest.TestCase):
    def test_the_example(self):
        rich, alike = ((0, 0), (1, 0)), ((1, 0), (0, 1))
        self.assertEqual(
            [side_by_side(rich, alike), both(rich, alike), product(alike, ((4, 5),)), count_told(2, 2, 2)],
            [((0, 0, 1, 0), (1, 0, 0, 1)), ((1, 0), (2, 1)), ((2, 3, 0, 1), (0, 1, 2, 3)), 8],
        )


class SideBySide(unittest.TestCase):
    def test_all_sizes(self):
        for (rows, columns), (others, more) in all_of(SIZES, SIZES):
            one, other = sized(rows, columns), sized(others, more, 50)
            if rows != others:
                check_error(self, Unlike, side_by_side, one, other)
            elif columns + more > 6:
                check_error(self, (TooGreat, "most", 6), side_by_side, one, other)
            else:
                made = side_by_side(one, other)
                self.assertIs(is_table(made), True)
                cells = {(x, y + columns): answer for (x, y), answer in as_cells(other).items()}
                self.assertEqual(as_cells(made), {**as_cells(one), **cells})

    def test_its_two_parts(self):
        for one in random_tables(60, 5, 1):
            if len(one[0]) < 4:
                made = side_by_side(one, one[::-1])
                rows, many = tuple(range(len(one))), len(one[0])
                self.assertEqual(part_table(made, (rows, tuple(range(many)))), one)
                self.assertEqual(part_table(made, (rows, tuple(range(many, 2 * many)))), one[::-1])


class Both(unittest.TestCase):
    def test_all_sizes(self):
        for size, other_size in all_of(SIZES, SIZES):
            if size != other_size:
                check_error(self, Unlike, both, sized(*size), sized(*other_size))
            else:
                self.assertEqual(as_cells(both(sized(*size), sized(*size))), as_cells(sized(*size)))

    def test_by_chance(self):
        chance = random.Random(2)
        for one in random_tables(150, 4, 2):
            other = tuple(tuple(chance.choice((0, 7, 99)) for _ in row) for row in one)
            made = both(one, other)
            self.assertIs(is_table(made), True)
            pairs = {things: (one[things[0]][things[1]], other[things[0]][things[1]]) for things in as_cells(one)}
            self.assertEqual(as_cells(made), plain_numbers(pairs))

    def test_numbers_have_no_gaps(self):
        self.assertEqual(both(((9, 9, 3),), ((1, 1, 99),)), ((1, 1, 0),))
        self.assertEqual(both(((5, 5), (5, 5)), ((6, 6), (6, 6))), ((0, 0), (0, 0)))
        self.assertEqual(max(map(max, both(sized(6, 6), sized(6, 6)))), 35)

    def test_the_first_answer_counts_first(self):
        self.assertEqual(both(((1, 2), (3, 1)), ((9, 0), (0, 8))), ((1, 2), (3, 0)))


class Product(unittest.TestCase):
    def test_all_sizes(self):
        for (rows, columns), (others, more) in all_of(SIZES, SIZES):
            one, other = sized(rows, columns), sized(others, more, 30)
            if rows * others > 6 or columns * more > 6:
                check_error(self, (TooGreat, "most", 6), product, one, other)
            else:
                self.check(one, other)

    def check(self, one, other):
        made = product(one, other)
        self.assertIs(is_table(made), True)
        pairs = {
            (x1 * len(other) + x2, y1 * len(other[0]) + y2): (first, second)
            for (x1, y1), first in as_cells(one).items() for (x2, y2), second in as_cells(other).items()
        }
        self.assertEqual(as_cells(made), plain_numbers(pairs))

    def test_by_chance(self):
        tables = random_tables(120, 3, 3)
        done = 0
        for one, other in all_of(tables, tables):
            if len(one) * len(other) <= 6 and len(one[0]) * len(other[0]) <= 6:
                self.check(one, other)
                done += 1
        self.assertGreater(done, 100)

    def test_with_a_table_of_one_thing(self):
        self.assertEqual(product(((4, 4, 9),), ONE), ((0, 0, 1),))
        self.assertEqual(product(ONE, ((4,), (2,))), ((1,), (0,)))

    def test_it_can_be_told_exactly_if_both_can(self):
        kinds = {}
        small = [
            table for rows, columns in all_of(range(1, 4), range(1, 4)) if rows * columns < 7
            for table in tables_of(rows, columns, 2)
        ]
        pairs = list(all_of(tables_of(2, 2, 3), tables_of(2, 2, 2)))
        pairs += [pair for pair in all_of(small, small) if len(pair[0]) * len(pair[1]) < 7][::29]
        pairs += [(told_table(3, 2, seed), told_table(2, 3, seed + 1)) for seed in range(20)]
        for one, other in pairs:
            if len(one[0]) * len(other[0]) < 7:
                told = (can_be_told(one), can_be_told(other))
                self.assertIs(can_be_told(product(one, other)), told == (True, True))
                kinds[told] = kinds.get(told, 0) + 1
        self.assertEqual(len(kinds), 4)
        self.assertGreater(min(kinds.values()), 50)


class WrongTables(unittest.TestCase):
    def test_bad_table(self):
        wrong = [(value, BadTable) for value in WRONG_TABLES]
        for call in (side_by_side, both, product):
            check_order(self, call, [ONE, ONE], [wrong, wrong])

    def test_bad_table_comes_ahead_of_unlike_and_too_great(self):
        for call in (side_by_side, both, product):
            for one in (((0,),) * 2, ((0,) * 6,) * 6):
                check_error(self, BadTable, call, one, ((0, 1), (0,)))
                check_error(self, BadTable, call, ((0, 1), (0,)), one)

    def test_unlike_comes_ahead_of_too_great(self):
        check_error(self, Unlike, side_by_side, sized(2, 4), sized(3, 4))
        check_error(self, Unlike, side_by_side, sized(6, 6), sized(5, 6))


class CountTold(unittest.TestCase):
    def test_by_all_tables(self):
        for rows, columns, many in all_of((1, 2, 3), (1, 2, 3), (1, 2, 3)):
            told = sum(can_be_told(table) for table in tables_of(rows, columns, many))
            self.assertEqual(count_told(rows, columns, many), told)

    def test_by_all_parts_of_all_tables(self):
        for rows, columns, many in all_of((1, 2, 3), (1, 2, 3), (1, 2, 3)):
            if many ** (rows * columns) <= 729:
                told = sum(plain_least_knot(table) is None for table in tables_of(rows, columns, many))
                self.assertEqual(count_told(rows, columns, many), told)

    def test_by_hand(self):
        self.assertEqual([count_told(1, 1, many) for many in (1, 2, 3)], [1, 2, 3])
        self.assertEqual(count_told(1, 3, 3), 27)
        self.assertEqual(count_told(3, 1, 2), 8)
        self.assertEqual(count_told(3, 3, 1), 1)

    def test_bad_number(self):
        wrong = [(value, BadNumber) for value in WRONG_VALUES + [0, 4, -1, 10 ** 5000, (1,), "1", True]]
        check_order(self, count_told, [2, 1, 2], [wrong, wrong, wrong])

    def test_numbers_at_their_bounds(self):
        for numbers in all_of(range(-1, 6), repeat=3):
            if max(numbers) < 4 and numbers != (3, 3, 3):
                self.assertIs(error_of(count_told, *numbers) is None, min(numbers) > 0)
            elif max(numbers) > 3:
                check_error(self, BadNumber, count_told, *numbers)


if __name__ == "__main__":
    unittest.main()
