import random
import unittest
from itertools import product

from nomoretold.classtalks import class_talk
from nomoretold.errors import NotPlain, NotRight, TooGreat
from nomoretold.judging import is_right, judged
from nomoretold.knots import can_be_told
from nomoretold.leaks import leak, leak_talk, least_leak
from nomoretold.talks import is_talk
from support import error_of, plain_answers, random_tables, told_table
from talking import (
    BIDS, EITHER, all_chances, all_halves, check_bad_table, check_bad_talk, end, plain_things, right_talk, say,
    some_talk, whole, with_answers,
)

TOSS = say("left", ((1, 1), end(4)), ((1, 1), end(4)))


def plain_leak(table, way_at):
    """The leak by the ways: triples by triples, for all in both orders, each counted half."""
    rows, columns = range(len(table)), range(len(table[0]))
    twice = 0
    for x, other, y in product(rows, rows, columns):
        twice += table[x][y] == table[other][y] and way_at[x, y] != way_at[other, y]
    for x, y, other in product(rows, columns, columns):
        twice += table[x][y] == table[x][other] and way_at[x, y] != way_at[x, other]
    return twice // 2


def ways_of(table, talk):
    return {things: next(iter(coming)) for things, coming in all_chances(table, talk).items()}


def plain_is_plain(talk):
    places = [thing for thing in plain_things(talk).values() if thing[0] == "say"]
    return all(
        sum(map(bool, weights)) == 1 for place in places for weights in zip(*[weights for weights, _ in place[2]])
    )


def all_outcomes(part, kept):
    """All sets of parts to which a part can be parted, by words of two branches or more."""
    if part not in kept:
        rows, columns = part
        pairs = [((one, columns), (other, columns)) for one, other in all_halves(rows)]
        pairs += [((rows, one), (rows, other)) for one, other in all_halves(columns)]
        found = {frozenset([part])}
        for one, other in pairs:
            found |= {a | b for a in all_outcomes(one, kept) for b in all_outcomes(other, kept)}
        kept[part] = found
    return kept[part]


def plain_least_leak(table, kept):
    leaks = []
    for outcome in all_outcomes(whole(table), kept):
        if all(len(plain_answers(table, part)) == 1 for part in outcome):
            leaks.append(plain_leak(table, {(x, y): part for part in outcome for x in part[0] for y in part[1]}))
    return min(leaks)


class Examples(unittest.TestCase):
    def test_the_example(self):
        self.assertEqual([least_leak(BIDS), least_leak(EITHER), leak(EITHER, leak_talk(EITHER))], [0, 1, 1])


class Leak(unittest.TestCase):
    def test_by_hand(self):
        alike = ((4, 4, 4), (4, 4, 4))
        self.assertEqual(leak(alike, end(4)), 0)
        # By one word of left three triples (x, x', y) are told apart, one for each column.
        self.assertEqual(leak(alike, say("left", ((1, 0), end(4)), ((0, 1), end(4)))), 3)
        # By one word of right that parts column 0 from two others, two pairs in each row.
        self.assertEqual(leak(alike, say("right", ((9, 0, 0), end(4)), ((0, 1, 2), end(4)))), 4)
        self.assertEqual(leak(alike, say("right", ((1, 0, 0), end(4)), ((0, 1, 0), end(4)), ((0, 0, 1), end(4)))), 6)
        both = say("right", ((1, 0, 0), say("left", ((1, 0), end(4)), ((0, 1), end(4)))), ((0, 1, 1), end(4)))
        self.assertEqual(leak(alike, both), 5)
        self.assertEqual(leak(alike, say("left", ((7, 9), end(4)))), 0)

    def test_unlike_answers_do_not_count(self):
        self.assertEqual(leak(((4, 4), (5, 5)), say("left", ((1, 0), end(4)), ((0, 1), end(5)))), 0)
        self.assertEqual(leak(((4, 4), (5, 4)), say(
            "left", ((1, 0), end(4)), ((0, 1), say("right", ((1, 0), end(5)), ((0, 1), end(4)))),
        )), 1)

    def test_other_ways_with_like_answers_are_unlike(self):
        self.assertEqual(leak(((4,), (4,)), say("left", ((1, 0), end(4)), ((0, 1), end(4)))), 1)
        self.assertEqual(leak(((4, 4),), say("right", ((1, 0), end(4)), ((0, 1), end(4)))), 1)

    def test_right_talks_by_chance(self):
        chance = random.Random(1)
        leaks = set()
        for table in random_tables(250, 3, 1):
            talk = right_talk(chance, table, plain=True)
            if is_talk(table, talk):
                told = leak(table, talk)
                self.assertEqual(told, plain_leak(table, ways_of(table, talk)))
                self.assertIs(told == 0, judged(table, talk) is None)
                leaks.add(told)
        self.assertGreater(len(leaks), 15)

    def test_class_talks_leak_nothing(self):
        for seed in range(60):
            table = told_table(1 + seed % 6, 1 + seed // 6 % 6, seed)
            self.assertEqual(leak(table, class_talk(table)), 0)


class WrongTalks(unittest.TestCase):
    def test_bad_table(self):
        check_bad_table(self, leak, end(0))

    def test_bad_talk(self):
        check_bad_talk(self, leak)

    def test_not_plain(self):
        table = ((4, 4), (4, 4))
        never = say("left", ((1, 0), end(4)), ((0, 1), TOSS))
        for talk in (
            TOSS, say("right", ((1, 1), end(4)), ((999, 0), end(4))), say("left", ((1, 1), TOSS)),
            # At a place that cannot come, and for a thing that cannot come there.
            say("left", ((1, 0), never), ((0, 1), end(4))),
            say("left", ((1, 0), say("left", ((1, 1), end(4)), ((0, 1), end(4)))), ((0, 1), end(4))),
        ):
            self.assertIs(type(error_of(leak, table, talk)), NotPlain)

    def test_not_right(self):
        for table, talk in (
            (EITHER, end(0)), (((4,),), end(5)), (EITHER, say("left", ((1, 0), end(0)), ((0, 1), end(1)))),
            (BIDS, say("left", ((1, 0), end(0)), ((0, 1), end(2)))),
        ):
            self.assertIs(type(error_of(leak, table, talk)), NotRight)

    def test_not_plain_comes_ahead_of_not_right(self):
        self.assertIs(type(error_of(leak, ((5, 5), (5, 5)), TOSS)), NotPlain)

    def test_an_end_that_comes_for_no_one_may_tell_anything(self):
        never = say("left", ((1, 0), end(4)), ((0, 1), end(9)))
        self.assertEqual(leak(((4, 4), (4, 4)), say("left", ((1, 0), never), ((0, 1), end(4)))), 2)

    def test_by_chance(self):
        chance = random.Random(2)
        kinds = {}
        for table in random_tables(300, 2, 2):
            talk = some_talk(chance, table, 2, plain=chance.random() < 0.7)
            expected = type(None)
            if not plain_is_plain(talk):
                expected = NotPlain
            elif not is_right(table, talk):
                expected = NotRight
            self.assertIs(type(error_of(leak, table, talk)), expected)
            kinds[expected] = kinds.get(expected, 0) + 1
        self.assertGreater(min(kinds.values()), 10)
        self.assertEqual(len(kinds), 3)


class LeastLeak(unittest.TestCase):
    def check(self, table):
        least, talk = least_leak(table), leak_talk(table)
        self.assertIs(is_talk(table, talk), True)
        self.assertIs(plain_is_plain(talk), True)
        self.assertIs(is_right(table, talk), True)
        self.assertEqual(leak(table, talk), least)
        self.assertIs(least == 0, can_be_told(table))
        return least

    def test_by_hand(self):
        self.assertEqual(self.check(((4,),)), 0)
        self.assertEqual(self.check(((4, 4, 4), (4, 4, 4))), 0)
        self.assertEqual(self.check(((0, 0, 0), (0, 1, 1))), 1)
        self.assertEqual(self.check(((0, 0), (0, 1), (0, 1))), 1)
        self.assertEqual(self.check(((0, 0, 1), (2, 4, 1), (2, 3, 3))), 1)

    def test_by_all_partings_of_small_tables(self):
        kept = {}
        for rows, columns, many in ((2, 2, 4), (2, 3, 3), (3, 2, 3)):
            for answers in product(range(many), repeat=rows * columns):
                table = tuple(answers[x * columns:(x + 1) * columns] for x in range(rows))
                self.assertEqual(self.check(table), plain_least_leak(table, kept))

    def test_by_all_partings_of_three_by_three(self):
        chance = random.Random(3)
        kept, leaks = {}, set()
        for many in [2] * 12 + [3] * 12 + [4] * 4:
            table = tuple(tuple(chance.randrange(many) for _ in range(3)) for _ in range(3))
            least = self.check(table)
            self.assertEqual(least, plain_least_leak(table, kept))
            leaks.add(least)
        self.assertTrue({0, 1, 2, 3} <= leaks)

    def test_by_all_plain_talks_of_two_by_two(self):
        shapes = [end(0)]
        for _ in range(2):
            shapes = [end(0)] + [
                say(who, (one, left), (other, right)) for who in ("left", "right")
                for one, other in (((1, 0), (0, 1)), ((0, 1), (1, 0))) for left in shapes for right in shapes
            ]
        for answers in product(range(3), repeat=4):
            table = (answers[:2], answers[2:])
            talks = [with_answers(table, shape, whole(table)) for shape in shapes]
            self.assertEqual(least_leak(table), min(leak(table, talk) for talk in talks if talk is not None))

    def test_greater_tables(self):
        chance = random.Random(4)
        for seed in range(30):
            many = 2 + seed % 4
            size = (1 + seed % 5, 5) if seed % 2 else (5, 1 + seed % 5)
            table = tuple(tuple(chance.randrange(many) for _ in range(size[1])) for _ in range(size[0]))
            least = self.check(table)
            for _ in range(20):
                self.assertLessEqual(least, leak(table, right_talk(chance, table, plain=True)))

    def test_told_tables(self):
        for seed in range(40):
            self.assertEqual(self.check(told_table(1 + seed % 5, 1 + seed // 5 % 5, seed)), 0)

    def test_too_great(self):
        for rows, columns in product(range(1, 7), range(1, 7)):
            table = ((7,) * columns,) * rows
            for call in (least_leak, leak_talk):
                error = error_of(call, table)
                if rows > 5 or columns > 5:
                    self.assertIs(type(error), TooGreat)
                    self.assertEqual(error.most, 5)
                else:
                    self.assertIsNone(error)

    def test_leak_itself_takes_great_tables(self):
        self.assertEqual(leak(((7,) * 6,) * 6, end(7)), 0)

    def test_bad_table_comes_ahead(self):
        for call in (least_leak, leak_talk):
            check_bad_table(self, call)

    def test_equal_calls_have_equal_answers(self):
        tables = [table for table in random_tables(60, 3, 5) if len(table) < 6 and len(table[0]) < 6]
        first = [(least_leak(table), leak_talk(table)) for table in tables]
        self.assertEqual(first, [(least_leak(table), leak_talk(table)) for table in tables[::-1]][::-1])


if __name__ == "__main__":
    unittest.main()
