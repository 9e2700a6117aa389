import copy
import random
import unittest

from nomoretold.errors import BadPart, BadTable
from nomoretold.tables import answers_in, column_classes, is_knotted, is_table, part_table, row_classes, turned
from support import (
    WRONG_PARTS, WRONG_TABLES, error_of, plain_answers, plain_column_classes, plain_is_knotted, plain_parts,
    plain_row_classes, random_tables, told_table,
)

BIDS = ((0, 3), (2, 2))
SPIRAL = ((0, 0, 1), (2, 4, 1), (2, 3, 3))
# Rows 0 and 4 are near by column 0, 4 and 2 by column 5: 0 and 2 hang together by way of 4 alone.
CHAIN = (
    (10, 11, 12, 13, 14, 15),
    (20, 21, 22, 23, 24, 25),
    (30, 31, 32, 33, 34, 35),
    (40, 21, 42, 43, 44, 45),
    (10, 51, 52, 53, 54, 35),
    (60, 61, 62, 63, 64, 65),
)
ALL_SIX = ((0, 1, 2, 3, 4, 5), (0, 1, 2, 3, 4, 5))
OF_TABLES = [answers_in, turned]
OF_PARTS = [part_table, row_classes, column_classes, is_knotted]


class Examples(unittest.TestCase):
    def test_the_first(self):
        self.assertEqual(
            [answers_in(BIDS), turned(BIDS), part_table(BIDS, ((0,), (0, 1)))],
            [(0, 2, 3), ((0, 2), (3, 2)), ((0, 3),)],
        )

    def test_the_second(self):
        whole = ((0, 1), (0, 1))
        self.assertEqual(
            [row_classes(BIDS, whole), column_classes(BIDS, whole), is_knotted(((0, 0), (0, 1)), whole)],
            [((0,), (1,)), ((0, 1),), True],
        )


class IsTable(unittest.TestCase):
    def test_all_sizes(self):
        for rows in range(1, 10):
            for columns in range(1, 10):
                with self.subTest((rows, columns)):
                    table = ((5,) * columns,) * rows
                    self.assertIs(is_table(table), rows <= 6 and columns <= 6)

    def test_least_and_greatest_answers(self):
        for answer in range(-3, 105):
            with self.subTest(answer):
                self.assertIs(is_table(((7, answer),)), 0 <= answer <= 99)

    def test_a_wrong_answer_anywhere(self):
        for x in range(6):
            for y in range(6):
                for wrong in (-1, 100, True, False, None, "1", (1,), [1], {1: 1}):
                    rows = [[1] * 6 for _ in range(6)]
                    rows[x][y] = wrong
                    self.assertIs(is_table(tuple(map(tuple, rows))), False)

    def test_a_row_of_another_length_anywhere(self):
        for x in range(6):
            for length in (0, 3, 5, 7):
                rows = [(1, 2, 3, 4)] * 6
                rows[x] = (1,) * length
                self.assertIs(is_table(tuple(rows)), False)

    def test_wrong_values(self):
        for value in WRONG_TABLES:
            self.assertIs(is_table(value), False)

    def test_tables_by_chance(self):
        for table in random_tables(100, 10, 1):
            self.assertIs(is_table(table), True)
            self.assertIs(is_table([*table]), False)
            self.assertIs(is_table(tuple(map(list, table))), False)


class WrongInputs(unittest.TestCase):
    def test_bad_table(self):
        for value in WRONG_TABLES:
            for call in OF_TABLES:
                with self.subTest(call.__name__):
                    self.assertIs(type(error_of(call, value)), BadTable)

    def test_bad_table_ahead_of_bad_part(self):
        for value in WRONG_TABLES:
            for call in OF_PARTS:
                for part in (((0,), (0,)), None, ((1, 0), (0,)), ((9,), (9,)), [], True, value):
                    with self.subTest(call.__name__):
                        self.assertIs(type(error_of(call, value, part)), BadTable)

    def test_bad_part(self):
        for part in WRONG_PARTS:
            for call in OF_PARTS:
                with self.subTest(call.__name__, part=str(type(part))):
                    self.assertIs(type(error_of(call, ((0, 1, 2), (1, 2, 0)), part)), BadPart)

    def test_a_part_of_a_greater_table(self):
        for call in OF_PARTS:
            for table, part in (
                (((1,),), ((0, 1), (0,))), (((1,),), ((0,), (0, 1))),
                (((1, 2),), ((1,), (0,))), (((1,), (2,)), ((0,), (1,))),
                (((1,) * 6,) * 6, ((6,), (0,))), (((1,) * 6,) * 6, ((0,), (0, 6))),
            ):
                with self.subTest(call.__name__):
                    self.assertIs(type(error_of(call, table, part)), BadPart)

    def test_nothing_handed_in_is_changed(self):
        for value in WRONG_TABLES:
            before = copy.deepcopy(value)
            is_table(value)
            for call in OF_TABLES:
                error_of(call, value)
            for call in OF_PARTS:
                error_of(call, value, value)
                error_of(call, BIDS, value)
            self.assertEqual(value, before)

    def test_other_calls_between_change_no_answer(self):
        whole = ((0, 1, 2), (0, 1, 2))
        first = [call(SPIRAL, whole) for call in OF_PARTS]
        for part in WRONG_PARTS:
            error_of(row_classes, SPIRAL, part)
        for table in random_tables(20, 3, 2):
            row_classes(table, ((0,), (0,)))
        self.assertEqual([call(SPIRAL, whole) for call in OF_PARTS], first)


class AnswersAndTurning(unittest.TestCase):
    def test_answers(self):
        self.assertEqual(answers_in(((99,),)), (99,))
        self.assertEqual(answers_in(((0, 0), (0, 0))), (0,))
        self.assertEqual(answers_in(((10, 9, 2), (2, 99, 0))), (0, 2, 9, 10, 99))

    def test_answers_by_chance(self):
        for table in random_tables(200, 36, 3):
            self.assertEqual(answers_in(table), tuple(sorted(set(sum(table, ())))))

    def test_turned(self):
        self.assertEqual(turned(((1, 2, 3),)), ((1,), (2,), (3,)))
        self.assertEqual(turned(((1,), (2,), (3,))), ((1, 2, 3),))
        self.assertEqual(turned(((7,),)), ((7,),))
        self.assertEqual(turned(((1, 2, 3), (4, 5, 6))), ((1, 4), (2, 5), (3, 6)))

    def test_turned_by_chance(self):
        for table in random_tables(200, 36, 4):
            self.assertEqual(turned(table), tuple(zip(*table)))
            self.assertEqual(turned(turned(table)), table)
            self.assertIs(is_table(turned(table)), True)


class Parts(unittest.TestCase):
    def test_part_table(self):
        self.assertEqual(part_table(CHAIN, ((1, 3), (0, 1, 5))), ((20, 21, 25), (40, 21, 45)))
        self.assertEqual(part_table(CHAIN, ((5,), (5,))), ((65,),))
        self.assertEqual(part_table(CHAIN, ALL_SIX), CHAIN)

    def test_chain_by_way_of_another_row(self):
        self.assertEqual(row_classes(CHAIN, ALL_SIX), ((0, 2, 4), (1, 3), (5,)))
        self.assertEqual(row_classes(CHAIN, ((0, 2, 5), (0, 1, 2, 3, 4, 5))), ((0,), (2,), (5,)))
        self.assertEqual(row_classes(CHAIN, ((0, 1, 2, 3, 4, 5), (0, 1, 2, 3, 4))), ((0, 4), (1, 3), (2,), (5,)))
        self.assertEqual(row_classes(CHAIN, ((0, 2, 3, 4), (5,))), ((0,), (2, 4), (3,)))
        self.assertEqual(column_classes(CHAIN, ALL_SIX), ((0,), (1,), (2,), (3,), (4,), (5,)))

    def test_chain_of_columns(self):
        table = turned(CHAIN)
        self.assertEqual(column_classes(table, ALL_SIX), ((0, 2, 4), (1, 3), (5,)))
        self.assertEqual(column_classes(table, ((0, 1, 2, 3, 4, 5), (0, 2, 5))), ((0,), (2,), (5,)))
        self.assertEqual(column_classes(table, ((5,), (0, 2, 3, 4))), ((0,), (2, 4), (3,)))
        self.assertEqual(row_classes(table, ALL_SIX), ((0,), (1,), (2,), (3,), (4,), (5,)))

    def test_a_long_chain(self):
        # Each row is near the next one in this order alone: 3, 0, 5, 1, 4, 2.
        table = (
            (1, 2, 93, 94, 95, 0), (81, 82, 3, 4, 85, 1), (71, 72, 73, 74, 5, 2),
            (1, 62, 63, 64, 65, 3), (51, 52, 53, 4, 5, 4), (41, 2, 3, 44, 45, 5),
        )
        self.assertEqual(row_classes(table, ALL_SIX), ((0, 1, 2, 3, 4, 5),))
        self.assertEqual(row_classes(table, ((0, 1, 2, 3, 4, 5), (0, 1, 2, 4, 5))), ((0, 1, 3, 5), (2, 4)))
        self.assertEqual(row_classes(table, ((0, 1, 2, 3, 5), (0, 1, 2, 3, 4, 5))), ((0, 1, 3, 5), (2,)))

    def test_like_answers_in_unlike_columns_are_not_near(self):
        self.assertEqual(row_classes(((1, 2), (2, 1)), ((0, 1), (0, 1))), ((0,), (1,)))
        self.assertEqual(column_classes(((1, 2), (2, 1)), ((0, 1), (0, 1))), ((0,), (1,)))

    def test_one_thing_hangs_together_with_itself(self):
        self.assertEqual(row_classes(((4,),), ((0,), (0,))), ((0,),))
        self.assertEqual(column_classes(((4,),), ((0,), (0,))), ((0,),))
        self.assertEqual(column_classes(((4, 5, 4),), ((0,), (0, 1, 2))), ((0, 2), (1,)))
        self.assertEqual(row_classes(((4,), (5,), (4,)), ((0, 1, 2), (0,))), ((0, 2), (1,)))

    def test_is_knotted(self):
        whole = ((0, 1, 2), (0, 1, 2))
        self.assertIs(is_knotted(SPIRAL, whole), True)
        self.assertIs(is_knotted(SPIRAL, ((0, 1), (0, 1, 2))), False)
        self.assertIs(is_knotted(BIDS, ((0, 1), (0, 1))), False)
        self.assertIs(is_knotted(((3, 3), (3, 3)), ((0, 1), (0, 1))), False)
        self.assertIs(is_knotted(((3,),), ((0,), (0,))), False)
        # The columns hang together, the rows don't; and turned.
        self.assertIs(is_knotted(((0, 0), (1, 2)), ((0, 1), (0, 1))), False)
        self.assertIs(is_knotted(((0, 1), (0, 2)), ((0, 1), (0, 1))), False)

    def test_all_parts_by_a_plainer_way(self):
        tables = [CHAIN, SPIRAL, BIDS, told_table(6, 6, 1), told_table(6, 6, 2)]
        tables += [table for table in random_tables(12, 6, 5) if len(plain_parts(table)) < 500]
        for table in tables:
            for part in plain_parts(table):
                self.check_part(table, part)

    def test_parts_by_chance_by_a_plainer_way(self):
        chance = random.Random(6)
        for table in random_tables(300, 25, 7):
            for _ in range(10):
                rows = chance.sample(range(len(table)), chance.randint(1, len(table)))
                columns = chance.sample(range(len(table[0])), chance.randint(1, len(table[0])))
                self.check_part(table, (tuple(sorted(rows)), tuple(sorted(columns))))

    def check_part(self, table, part):
        rows, columns = part
        small = tuple(tuple(table[x][y] for y in columns) for x in rows)
        self.assertEqual(part_table(table, part), small)
        self.assertEqual(set(answers_in(small)), plain_answers(table, part))
        self.assertEqual(row_classes(table, part), plain_row_classes(table, part))
        self.assertEqual(column_classes(table, part), plain_column_classes(table, part))
        self.assertIs(is_knotted(table, part), plain_is_knotted(table, part))


if __name__ == "__main__":
    unittest.main()
