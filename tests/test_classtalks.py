import random
import unittest
from itertools import groupby, product

from nomoretold.classtalks import class_talk, fewest_turns, turns
from nomoretold.errors import BadTable, Knotted
from nomoretold.judging import judged
from nomoretold.knots import least_knot
from nomoretold.tables import is_table, turned
from nomoretold.talks import is_talk
from support import (
    WRONG_TABLES, error_of, plain_answers, plain_column_classes, plain_least_knot, plain_row_classes, random_tables,
    told_table,
)
from talking import (
    BIDS, BY_RIGHT, EITHER, all_chances, all_halves, check_bad_table, check_bad_talk, end, plain_things, say,
    some_talk, whole, with_answers,
)

BOTH_ALIKE = ((0, 1), (2, 3))


def plain_class_talk(table, part, who_begins):
    """The class talk of a part, begun by who, told as [8] tells it; who follows where who can't begin."""
    rows, columns = part
    if len(plain_answers(table, part)) == 1:
        return end(table[rows[0]][columns[0]])
    kinds = [("left", plain_row_classes(table, part)), ("right", plain_column_classes(table, part))]
    if who_begins == "right":
        kinds.reverse()
    who, lots = next((who, lots) for who, lots in kinds if len(lots) > 1)
    many = len(table) if who == "left" else len(table[0])
    branches = []
    for number, lot in enumerate(lots):
        below = (lot, columns) if who == "left" else (rows, lot)
        weights = tuple(
            int(thing in lot) if any(thing in some for some in lots) else int(number == 0) for thing in range(many)
        )
        branches.append((weights, plain_class_talk(table, below, "left")))
    return say(who, *branches)


def plain_turns(table, talk):
    things = plain_things(talk)
    ways = {way for coming in all_chances(table, talk).values() for way in coming}
    rows = [[things[way[:length]][1] for length in range(len(way))] for way in ways]
    return max(len(list(groupby(row))) for row in rows)


def plain_fewest_turns(table, part, last=None):
    """By all pairs of lots to which the things can be parted so that no like answers fall apart."""
    if len(plain_answers(table, part)) == 1:
        return 0
    found = []
    for who, lots in (("left", part[0]), ("right", part[1])):
        for one, other in all_halves(lots):
            if who == "left":
                near = any(table[a][y] == table[b][y] for a in one for b in other for y in part[1])
                below = ((one, part[1]), (other, part[1]))
            else:
                near = any(table[x][a] == table[x][b] for a in one for b in other for x in part[0])
                below = ((part[0], one), (part[0], other))
            if not near:
                lower = [plain_fewest_turns(table, some, who) for some in below]
                if None not in lower:
                    found.append((who != last) + max(lower))
    return min(found, default=None)


class Examples(unittest.TestCase):
    def test_the_example(self):
        self.assertEqual(
            class_talk(BIDS),
            ("say", "left", (
                ((1, 0), ("say", "right", (((1, 0), ("answer", 0)), ((0, 1), ("answer", 3))))),
                ((0, 1), ("answer", 2)),
            )),
        )
        self.assertEqual([turns(BIDS, class_talk(BIDS)), fewest_turns(BIDS), fewest_turns(EITHER)], [2, 2, None])
        self.assertIs(type(error_of(class_talk, (0, 1))), BadTable)


class ClassTalk(unittest.TestCase):
    def test_one_answer(self):
        self.assertEqual(class_talk(((7,),)), end(7))
        self.assertEqual(class_talk(((7, 7, 7), (7, 7, 7))), end(7))

    def test_one_row_or_column(self):
        self.assertEqual(class_talk(((1, 0, 1),)), say("right", ((1, 0, 1), end(1)), ((0, 1, 0), end(0))))
        self.assertEqual(class_talk(((1,), (0,), (1,))), say("left", ((1, 0, 1), end(1)), ((0, 1, 0), end(0))))

    def test_left_begins_where_turns_are_alike(self):
        self.assertEqual(class_talk(BOTH_ALIKE)[1], "left")
        self.assertEqual(class_talk(turned(BOTH_ALIKE))[1], "left")
        self.assertEqual(fewest_turns(BOTH_ALIKE), 2)

    def test_right_begins_where_it_takes_fewer_turns(self):
        self.assertEqual(class_talk(BY_RIGHT), say(
            "right", ((1, 0, 0), say("left", ((1, 1, 0), end(0)), ((0, 0, 1), end(3)))),
            ((0, 1, 1), say("left", ((1, 0, 0), end(1)), ((0, 1, 0), end(2)), ((0, 0, 1), end(4)))),
        ))
        self.assertEqual(fewest_turns(BY_RIGHT), 2)
        self.assertEqual(class_talk(turned(BY_RIGHT))[1], "left")
        self.assertEqual(fewest_turns(turned(BY_RIGHT)), 2)

    def test_right_begins_where_left_cannot(self):
        # The columns alone fall apart in the whole table.
        table = turned(BIDS)
        self.assertEqual(class_talk(table)[1], "right")
        self.assertEqual(fewest_turns(table), 2)

    def test_things_that_cannot_come_are_in_the_first_branch(self):
        # Row 1 cannot come behind the first word, nor can column 0 where columns are told again.
        table = ((0, 3, 3), (2, 2, 2), (0, 4, 5))
        columns_again = say("right", ((1, 1, 0), end(4)), ((0, 0, 1), end(5)))
        rows_again = say("left", ((1, 1, 0), end(3)), ((0, 0, 1), columns_again))
        columns = say("right", ((1, 0, 0), end(0)), ((0, 1, 1), rows_again))
        self.assertEqual(class_talk(table), say("left", ((1, 0, 1), columns), ((0, 1, 0), end(2))))
        self.assertEqual(fewest_turns(table), 4)

    def check(self, table):
        talk = class_talk(table)
        left = plain_class_talk(table, whole(table), "left")
        right = plain_class_talk(table, whole(table), "right")
        by_right = plain_turns(table, right) < plain_turns(table, left)
        self.assertEqual(talk, right if by_right else left)
        self.assertIs(is_talk(table, talk), True)
        self.assertIsNone(judged(table, talk))
        self.assertEqual(turns(table, talk), min(plain_turns(table, left), plain_turns(table, right)))
        self.assertEqual(fewest_turns(table), turns(table, talk))
        return by_right

    def test_told_tables_by_chance(self):
        by_right = 0
        for seed in range(300):
            by_right += self.check(told_table(1 + seed % 6, 1 + seed // 6 % 6, seed))
        self.assertGreater(by_right, 10)

    def test_all_told_tables_of_few_answers(self):
        for rows, columns, many in ((2, 2, 4), (2, 3, 3), (3, 2, 3), (3, 3, 2)):
            for answers in product(range(many), repeat=rows * columns):
                table = tuple(answers[x * columns:(x + 1) * columns] for x in range(rows))
                if plain_least_knot(table) is None:
                    self.check(table)
                else:
                    self.assertIsNone(fewest_turns(table))

    def test_the_greatest_tables(self):
        table = tuple(tuple(range(6 * x, 6 * x + 6)) for x in range(6))
        self.check(table)
        self.assertEqual(fewest_turns(table), 2)

    def test_knotted_with_the_least_knot(self):
        knotted = [table for table in random_tables(200, 4, 1) if least_knot(table) is not None]
        self.assertGreater(len(knotted), 50)
        for table in knotted + [EITHER, ((5, 6, 7), (0, 0, 1), (0, 0, 0)), ((0, 0, 1), (2, 4, 1), (2, 3, 3))]:
            error = error_of(class_talk, table)
            self.assertIs(type(error), Knotted)
            self.assertEqual(error.part, plain_least_knot(table))
            self.assertIsNone(fewest_turns(table))


class Turns(unittest.TestCase):
    def test_an_end_has_none(self):
        self.assertEqual(turns(((0,),), end(0)), 0)
        self.assertEqual(turns(EITHER, end(9)), 0)

    def test_places_of_one_speaker_are_one_turn(self):
        talk = end(0)
        for count, who in enumerate(["left", "left", "right", "right", "right", "left"]):
            talk = say(who, ((1, 1), talk))
            self.assertEqual(turns(EITHER, talk), [1, 1, 2, 2, 2, 3][count])

    def test_the_most_turns_of_all_ways(self):
        long = say("right", ((1, 1), say("left", ((1, 1), end(0)))))
        for branches in (((1, 0), long), ((0, 1), end(0))), (((1, 0), end(0)), ((0, 1), long)):
            self.assertEqual(turns(EITHER, say("left", *branches)), 3)

    def test_ways_that_cannot_come_do_not_count(self):
        long = say("right", ((1, 1), say("left", ((1, 1), say("right", ((1, 1), end(0)))))))
        never = say("left", ((1, 0), end(0)), ((0, 1), long))
        talk = say("left", ((1, 0), never), ((0, 1), end(0)))
        self.assertEqual(turns(EITHER, talk), 1)
        self.assertEqual(turns(EITHER, say("left", ((1, 1), never), ((0, 1), end(0)))), 4)
        never = say("right", ((1, 0), end(0)), ((0, 1), long))
        self.assertEqual(turns(EITHER, say("right", ((1, 0), never), ((0, 1), end(0)))), 1)

    def test_40_turns(self):
        talk = end(0)
        for count in range(40):
            talk = say(("left", "right")[count % 2], ((1, 1), talk))
        self.assertEqual(turns(EITHER, talk), 40)

    def test_by_chance(self):
        chance = random.Random(2)
        for table in random_tables(200, 4, 2):
            talk = some_talk(chance, table, 4, plain=True)
            if is_talk(table, talk):
                self.assertEqual(turns(table, talk), plain_turns(table, talk))


class FewestTurns(unittest.TestCase):
    def test_by_all_partings_of_told_tables(self):
        for seed in range(150):
            table = told_table(1 + seed % 4, 1 + seed // 4 % 4, seed)
            self.assertEqual(fewest_turns(table), plain_fewest_turns(table, whole(table)))

    def test_by_all_partings_of_any_tables(self):
        for table in random_tables(150, 9, 3):
            if len(table) <= 4 and len(table[0]) <= 4:
                self.assertEqual(fewest_turns(table), plain_fewest_turns(table, whole(table)))

    def test_by_all_talks_with_coins_of_two_words(self):
        # All talks of at most two places on a way, two words each and weights 0 and 1; an end
        # tells what it must. With coins there are no fewer turns than without.
        shapes = [end(0)]
        some = list(product((0, 1), repeat=2))
        weights = [pair for pair in product(some, some) if all(map(any, pair + tuple(zip(*pair))))]
        for _ in range(2):
            shapes = [end(0)] + [
                say(who, (one, left), (other, right))
                for who in ("left", "right") for one, other in weights for left in shapes for right in shapes
            ]
        for table in (((0, 0), (0, 0)), ((0, 1), (0, 1)), BIDS, BOTH_ALIKE, EITHER, ((0, 1), (1, 0))):
            found = []
            for shape in shapes:
                talk = with_answers(table, shape, whole(table))
                if talk is not None and judged(table, talk) is None:
                    found.append(turns(table, talk))
            self.assertEqual(min(found, default=None), fewest_turns(table))


class WrongInputs(unittest.TestCase):
    def test_bad_table(self):
        for call in (class_talk, fewest_turns):
            check_bad_table(self, call)
        check_bad_table(self, turns, end(0))
        self.assertFalse(any(map(is_table, WRONG_TABLES)))

    def test_bad_talk(self):
        check_bad_talk(self, turns)

    def test_equal_calls_have_equal_answers(self):
        tables = [told_table(4, 5, seed) for seed in range(20)]
        first = [(class_talk(table), fewest_turns(table)) for table in tables]
        again = [(class_talk(table), fewest_turns(table)) for table in reversed(tables)]
        self.assertEqual(first, again[::-1])


if __name__ == "__main__":
    unittest.main()
