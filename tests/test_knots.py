import copy
import unittest
from itertools import product

from nomoretold.errors import BadTable
from nomoretold.knots import can_be_told, least_knot, stuck
from nomoretold.tables import is_knotted, turned
from support import WRONG_TABLES, error_of, plain_least_knot, plain_stuck, random_tables, told_table

SPIRAL = ((0, 0, 1), (2, 4, 1), (2, 3, 3))
WHOLE_THREE = ((0, 1, 2), (0, 1, 2))


def all_tables(rows, columns, many):
    """All tables of this size with the answers from 0 to many - 1."""
    for answers in product(range(many), repeat=rows * columns):
        yield tuple(answers[x * columns:(x + 1) * columns] for x in range(rows))


def made(n, answer):
    """The table of n things each with the answer told by a function."""
    return tuple(tuple(answer(x, y) for y in range(n)) for x in range(n))


class Examples(unittest.TestCase):
    def test_the_example(self):
        table = ((5, 6, 7), (0, 0, 1), (0, 0, 0))
        self.assertEqual(
            [can_be_told(((0, 3), (2, 2))), can_be_told(((0, 0), (0, 1))), least_knot(table), stuck(table)],
            [True, False, ((1, 2), (0, 2)), ((1, 2), (0, 1, 2))],
        )


class ByHand(unittest.TestCase):
    def test_told_tables(self):
        for table in [
            ((0,),), ((99,),), ((1, 2, 3, 4, 5, 6),), ((1,), (1,), (2,), (1,), (3,), (2,)),
            ((1, 1, 1, 1, 1, 1),) * 6, ((0, 1), (1, 0)), ((0, 1, 1), (2, 3, 4)),
            made(6, lambda x, y: 6 * x + y), made(6, lambda x, y: (x + y) % 6),
            made(6, lambda x, y: 2 * max(x, y) + (y > x)), made(6, lambda x, y: 2 * min(x, y) + (y > x)),
        ]:
            with self.subTest(table):
                self.assertIs(can_be_told(table), True)
                self.assertIsNone(least_knot(table))
                self.assertIsNone(stuck(table))

    def test_one_row_or_one_column_is_never_knotted(self):
        for table in all_tables(1, 6, 3):
            self.assertEqual((can_be_told(table), least_knot(table), stuck(table)), (True, None, None))
            self.assertEqual((can_be_told(turned(table)), least_knot(turned(table))), (True, None))

    def test_three_ways_round(self):
        # No smaller part is knotted: each thing has its chain by way of two others.
        self.assertIs(can_be_told(SPIRAL), False)
        self.assertEqual(least_knot(SPIRAL), WHOLE_THREE)
        self.assertEqual(stuck(SPIRAL), WHOLE_THREE)

    def test_richer_and_same(self):
        # Whose is greater among six each: 0 unless left's is.
        richer = made(6, lambda x, y: int(x > y))
        self.assertEqual(least_knot(richer), ((0, 1), (0, 1)))
        self.assertEqual(stuck(richer), ((0, 1, 2, 3, 4, 5), (0, 1, 2, 3, 4, 5)))
        # Of 1 0 0 / 0 1 0 / 0 0 1 the first two rows with the first and last column: 1 0 / 0 0.
        same = made(3, lambda x, y: int(x == y))
        self.assertEqual(least_knot(same), ((0, 1), (0, 2)))
        self.assertEqual(stuck(same), WHOLE_THREE)
        self.assertIs(can_be_told(made(2, lambda x, y: int(x == y))), True)

    def test_least_knot_by_its_size_first(self):
        # A knot of two rows and two columns stands behind a greater one of the first rows.
        table = (
            (0, 0, 1, 40, 50), (2, 4, 1, 41, 51), (2, 3, 3, 42, 52),
            (60, 61, 62, 30, 30), (63, 64, 65, 30, 31),
        )
        self.assertEqual(least_knot(table), ((3, 4), (3, 4)))
        self.assertEqual(stuck(table), WHOLE_THREE)

    def test_least_knot_of_one_size_by_its_rows_as_a_tuple(self):
        # Of 4 + 3 rows and columns ahead of 3 + 4: rows are compared as tuples, not by their number.
        table = (
            (24, 24, 22, 11, 13, 10), (30, 31, 32, 12, 14, 10), (33, 34, 35, 15, 14, 15),
            (36, 37, 38, 11, 12, 12), (22, 25, 21, 21, 39, 40), (20, 25, 22, 20, 41, 42),
        )
        first, next_one = ((0, 1, 2, 3), (3, 4, 5)), ((0, 4, 5), (0, 1, 2, 3))
        self.assertTrue(is_knotted(table, first) and is_knotted(table, next_one))
        self.assertEqual(least_knot(table), first)
        # And of 3 + 4 ahead of 4 + 3.
        table = (
            (21, 20, 11, 12, 15, 11), (30, 31, 13, 14, 14, 12), (32, 33, 10, 10, 15, 12),
            (22, 20, 24, 34, 35, 36), (25, 25, 24, 37, 38, 39), (21, 22, 22, 40, 41, 42),
        )
        first, next_one = ((0, 1, 2), (2, 3, 4, 5)), ((0, 3, 4, 5), (0, 1, 2))
        self.assertTrue(is_knotted(table, first) and is_knotted(table, next_one))
        self.assertEqual(least_knot(table), first)

    def test_least_knot_by_rows_then_by_columns(self):
        self.assertEqual(least_knot(((1, 2, 2, 1), (1, 2, 3, 4))), ((0, 1), (0, 3)))
        table = ((5, 5, 1, 1), (8, 9, 1, 2), (5, 6, 10, 11))
        self.assertIs(is_knotted(table, ((0, 2), (0, 1))), True)
        self.assertEqual(least_knot(table), ((0, 1), (2, 3)))

    def test_stuck_by_row_classes_that_are_not_contiguous(self):
        # Rows part into (0, 2) and (1, 3); each has a knot in two of its columns.
        table = ((10, 11, 0, 0), (1, 1, 20, 21), (10, 11, 0, 2), (1, 3, 20, 21))
        self.assertEqual(stuck(table), ((0, 2), (2, 3)))
        table = ((0, 0, 10, 11), (30, 31, 5, 5), (0, 1, 12, 13), (32, 33, 5, 6))
        self.assertEqual(stuck(table), ((0, 2), (0, 1)))
        self.assertEqual(stuck(turned(table)), ((0, 1), (0, 2)))
        self.assertEqual(least_knot(table), ((0, 2), (0, 1)))

    def test_stuck_takes_rows_where_both_part(self):
        # Rows are (0, 1) and (2, 3), columns (0, 1) and (2, 3). By rows first, the first
        # stuck part is of rows 0 and 1, in columns 2 and 3; by columns first it would be
        # the one of columns 0 and 1, in rows 2 and 3.
        table = ((10, 10, 2, 2), (10, 10, 2, 3), (6, 6, 20, 20), (6, 7, 20, 20))
        self.assertEqual(stuck(table), ((0, 1), (2, 3)))
        self.assertEqual(stuck(turned(table)), ((0, 1), (2, 3)))

    def test_stuck_takes_the_first_class_first(self):
        table = ((1, 1), (1, 2), (3, 3), (3, 4))
        self.assertEqual(stuck(table), ((0, 1), (0, 1)))
        table = ((1, 1), (3, 3), (3, 4), (1, 2))
        self.assertEqual(stuck(table), ((0, 3), (0, 1)))
        self.assertEqual(stuck(turned(table)), ((0, 1), (0, 3)))

    def test_stuck_goes_on_behind_a_part_that_is_told(self):
        table = ((9, 8, 7), (1, 1, 2), (1, 1, 1))
        self.assertEqual(stuck(table), ((1, 2), (0, 1, 2)))


class ByAPlainerWay(unittest.TestCase):
    def check(self, table):
        knot, end = least_knot(table), stuck(table)
        self.assertEqual(knot, plain_least_knot(table))
        self.assertEqual(end, plain_stuck(table))
        self.assertIs(can_be_told(table), knot is None)
        # What [4] says in brackets.
        self.assertIs(end is None, knot is None)
        if end is not None:
            self.assertIs(is_knotted(table, end), True)
            self.assertIs(is_knotted(table, knot), True)

    def test_all_small_tables(self):
        for rows, columns, many in ((2, 2, 4), (2, 3, 3), (3, 2, 3), (3, 3, 2), (2, 4, 2)):
            for table in all_tables(rows, columns, many):
                self.check(table)

    def test_tables_by_chance(self):
        for table in random_tables(300, 3, 8) + random_tables(300, 12, 9) + random_tables(30, 30, 10):
            self.check(table)

    def test_told_tables_by_chance(self):
        for seed in range(12):
            table = told_table(4 + seed % 3, 6 - seed % 3, seed)
            self.assertIs(can_be_told(table), True)
            self.assertIsNone(stuck(table))
            self.assertIsNone(least_knot(table))

    def test_told_tables_with_one_answer_changed(self):
        for seed in range(40):
            rows = [list(row) for row in told_table(4, 4, seed)]
            rows[seed % 4][seed // 4 % 4] = rows[(seed + 1) % 4][seed // 4 % 4]
            self.check(tuple(map(tuple, rows)))

    def test_great_tables(self):
        for seed in (1, 2):
            self.check(told_table(6, 6, seed))
        self.check(made(6, lambda x, y: max(x, y)))
        self.check(made(6, lambda x, y: int(x == y)))


class WrongInputs(unittest.TestCase):
    def test_bad_table(self):
        for value in WRONG_TABLES:
            for call in (can_be_told, least_knot, stuck):
                with self.subTest(call.__name__):
                    self.assertIs(type(error_of(call, value)), BadTable)

    def test_nothing_handed_in_is_changed(self):
        for value in WRONG_TABLES:
            before = copy.deepcopy(value)
            for call in (can_be_told, least_knot, stuck):
                error_of(call, value)
            self.assertEqual(value, before)

    def test_equal_calls_have_equal_answers(self):
        tables = random_tables(30, 6, 11)
        first = [(can_be_told(table), least_knot(table), stuck(table)) for table in tables]
        again = [(can_be_told(table), least_knot(table), stuck(table)) for table in reversed(tables)]
        self.assertEqual(first, again[::-1])


if __name__ == "__main__":
    unittest.main()
