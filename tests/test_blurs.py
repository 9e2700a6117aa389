import copy
import random
import unittest
from itertools import product

from nomoretold.blurs import blurred, finest_blur
from nomoretold.errors import BadLots, TooMany
from nomoretold.knots import can_be_told
from nomoretold.tables import answers_in
from support import WRONG_INTEGERS, WRONG_TABLES, WRONG_VALUES, error_of, plain_stuck, random_tables, told_table
from talking import BIDS, check_bad_table

TABLE = ((0, 0, 5), (0, 1, 6))

# What is no lots of TABLE, of which the answers are 0, 1, 5 and 6.
WRONG_LOTS = WRONG_VALUES + WRONG_INTEGERS + WRONG_TABLES + [
    (), ((),), ((), (0, 1, 5, 6)), ((0, 1, 5, 6), ()), ((0, 1), (), (5, 6)),
    # No list, no tuple.
    [(0, 1, 5, 6)], [[0, 1, 5, 6]], ([0, 1, 5, 6],), ((0, 1), [5, 6]), {(0, 1, 5, 6): 0}, (0, 1, 5, 6),
    ((0, 1, 5), 6), ("0156",), ((0, 1, 5, 6), None), (((0, 1, 5, 6),),), ({0: 1, 5: 6},),
    # An answer lacks.
    ((0, 1, 5),), ((0, 1), (5,)), ((1, 5, 6),), ((0,),),
    # An answer stands twice.
    ((0, 1, 5, 6), (0, 1, 5, 6)), ((0, 1), (1, 5, 6)), ((0, 0, 1, 5, 6),), ((0, 1), (0, 5, 6)), ((0,), (0, 1, 5, 6)),
    ((0, 1, 5, 6), (6,)),
    # Something else stands there.
    ((0, 1, 2, 5, 6),), ((0, 1, 5, 6), (7,)), ((0, 1, 5, 6, 99),), ((-1, 0, 1, 5, 6),), ((-1,), (0, 1, 5, 6)),
    ((0, 1, 5, 6, 10 ** 5000),), ((0, 1, 5, 6), (100,)), ((0, 1, 5, 6, None),), ((0, 1, 5, 6), (None,)),
    ((False, 1, 5, 6),), ((0, True, 5, 6),), ((0, True), (5, 6)), ((0, 1), (5, "6")), ((0, 1), (5, (6,))),
    ((0, 1), (5, [6])), ((0, 1, 5, 6), "7"),
    # Not ascending.
    ((1, 0, 5, 6),), ((0, 1, 6, 5),), ((0, 1), (6, 5)), ((5, 6), (0, 1)), ((0,), (5,), (1, 6)), ((1,), (0, 5, 6)),
    ((6,), (5,), (1,), (0,)), ((0, 6), (5,), (1,)),
]


def all_lots(answers):
    """All lots of the answers, by telling each one the number of its lot."""
    found = set()
    for numbers in product(range(len(answers)), repeat=len(answers)):
        lots = [tuple(a for a, number in zip(answers, numbers) if number == k) for k in range(len(answers))]
        found.add(tuple(sorted(lot for lot in lots if lot)))
    return found


def plain_blurred(table, lots):
    return tuple(tuple(min(next(lot for lot in lots if answer in lot)) for answer in row) for row in table)


def plain_finest(table):
    good = [lots for lots in all_lots(answers_in(table)) if plain_stuck(plain_blurred(table, lots)) is None]
    most = max(map(len, good))
    return min(lots for lots in good if len(lots) == most)


def table_of(many, seed):
    """A table of six by six with just so many unlike answers."""
    chance = random.Random(seed)
    answers = chance.sample(range(100), many)
    cells = answers + [chance.choice(answers) for _ in range(36 - many)]
    chance.shuffle(cells)
    return tuple(tuple(cells[6 * x:6 * x + 6]) for x in range(6))


class Examples(unittest.TestCase):
    def test_the_example(self):
        self.assertEqual(
            [finest_blur(TABLE), blurred(TABLE, finest_blur(TABLE))],
            [((0, 1), (5,), (6,)), ((0, 0, 5), (0, 0, 6))],
        )


class Blurred(unittest.TestCase):
    def test_all_lots(self):
        lots = all_lots((0, 1, 5, 6))
        self.assertEqual(len(lots), 15)
        for some in lots:
            self.assertEqual(blurred(TABLE, some), plain_blurred(TABLE, some))

    def test_by_hand(self):
        self.assertEqual(blurred(TABLE, ((0, 5), (1, 6))), ((0, 0, 0), (0, 1, 1)))
        self.assertEqual(blurred(TABLE, ((0,), (1,), (5,), (6,))), TABLE)
        self.assertEqual(blurred(TABLE, ((0, 1, 5, 6),)), ((0, 0, 0), (0, 0, 0)))
        self.assertEqual(blurred(((99,),), ((99,),)), ((99,),))

    def test_many_answers(self):
        table = tuple(tuple(range(6 * x, 6 * x + 6)) for x in range(6))
        self.assertEqual(blurred(table, tuple((k, k + 18) for k in range(18))), table[:3] + table[:3])
        self.assertEqual(blurred(table, (tuple(range(36)),)), ((0,) * 6,) * 6)

    def test_bad_lots(self):
        for lots in WRONG_LOTS:
            self.assertIs(type(error_of(blurred, TABLE, lots)), BadLots)

    def test_lots_of_another_table(self):
        self.assertIs(type(error_of(blurred, BIDS, ((0, 1, 5, 6),))), BadLots)
        self.assertIs(type(error_of(blurred, TABLE, ((0, 2, 3),))), BadLots)

    def test_bad_table(self):
        check_bad_table(self, blurred, ((0,),))

    def test_nothing_handed_in_is_changed(self):
        for lots in WRONG_LOTS:
            before = copy.deepcopy(lots)
            error_of(blurred, TABLE, lots)
            self.assertEqual(lots, before)


class FinestBlur(unittest.TestCase):
    def check(self, table):
        lots = finest_blur(table)
        self.assertEqual(lots, plain_finest(table))
        self.assertIs(can_be_told(blurred(table, lots)), True)

    def test_a_table_that_can_be_told_keeps_its_answers(self):
        self.assertEqual(finest_blur(BIDS), ((0,), (2,), (3,)))
        self.assertEqual(finest_blur(((7, 7), (7, 7))), ((7,),))
        for seed in range(40):
            table = told_table(1 + seed % 3, 1 + seed // 3 % 3, seed)
            if len(answers_in(table)) <= 8:
                self.assertEqual(finest_blur(table), tuple((answer,) for answer in answers_in(table)))

    def test_one_lot_alone(self):
        self.assertEqual(finest_blur(((0, 0), (0, 1))), ((0, 1),))
        self.assertEqual(finest_blur(((0, 0, 1), (2, 4, 1), (2, 3, 3))), ((0, 1, 2, 3, 4),))

    def test_two_knots(self):
        # Rows 0 and 1 are a knot, and so are rows 2 and 3.
        self.assertEqual(finest_blur(((4, 4), (4, 2), (3, 3), (3, 8))), ((2, 4), (3, 8)))
        self.assertEqual(finest_blur(((4, 4), (4, 2), (3, 3), (3, 4))), ((2, 3, 4),))

    def test_a_blur_may_knot_what_was_not(self):
        # Row 3 hangs together with the others only where 1 is put by 0, as these must.
        self.assertEqual(finest_blur(((0, 0, 20), (0, 1, 30), (7, 0, 40), (1, 9, 50))), (
            (0, 1, 7, 9), (20,), (30,), (40,), (50,),
        ))

    def test_the_first_of_those_with_the_most(self):
        # There never are two: what is knotted stays together in all blurs.
        kinds = set()
        for table in random_tables(400, 6, 1):
            answers = answers_in(table)
            if 2 < len(answers) <= 5:
                good = [lots for lots in all_lots(answers) if plain_stuck(plain_blurred(table, lots)) is None]
                most = max(map(len, good))
                self.assertEqual([lots for lots in good if len(lots) == most], [finest_blur(table)])
                kinds.add((len(answers), most))
        self.assertGreater(len(kinds), 5)

    def test_tables_by_chance(self):
        for table in random_tables(60, 6, 2):
            self.check(table)

    def test_told_tables_with_one_answer_changed(self):
        for seed in range(60):
            table = told_table(3, 3, seed)
            if 2 < len(answers_in(table)) <= 6:
                rows = [list(row) for row in table]
                rows[seed % 3][seed // 3 % 3] = rows[(seed + 1) % 3][seed // 9 % 3]
                self.check(tuple(map(tuple, rows)))

    def test_eight_answers_and_no_more(self):
        self.assertEqual(finest_blur(((1, 2, 3, 4), (5, 6, 7, 8))), tuple((answer,) for answer in range(1, 9)))
        for many in (7, 8, 9, 10, 36):
            error = error_of(finest_blur, table_of(many, many))
            if many <= 8:
                self.assertIsNone(error)
            else:
                self.assertIs(type(error), TooMany)
                self.assertEqual(error.most, 8)

    def test_too_many_also_where_the_table_can_be_told(self):
        error = error_of(finest_blur, ((1, 2, 3), (4, 5, 6), (7, 8, 9)))
        self.assertIs(type(error), TooMany)

    def test_eight_answers_that_are_all_in_one_lot(self):
        table = table_of(8, 3)
        self.assertEqual(finest_blur(table), (answers_in(table),))

    def test_bad_table(self):
        check_bad_table(self, finest_blur)

    def test_equal_calls_have_equal_answers(self):
        tables = random_tables(20, 5, 3)
        self.assertEqual(list(map(finest_blur, tables)), list(map(finest_blur, tables[::-1]))[::-1])


if __name__ == "__main__":
    unittest.main()
