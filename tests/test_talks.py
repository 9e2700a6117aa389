import copy
import random
import unittest
from itertools import product
from math import gcd

from nomoretold.errors import BadTable, BadTalk, BadThing, NoWay
from nomoretold.talks import chances, comes_for, heard, is_talk, size_of
from support import WRONG_INTEGERS, WRONG_TABLES, WRONG_VALUES, error_of, random_tables
from talking import (
    BIDS, LEFT_ONE, RIGHT_ONE, WIDE, WRONG_TALKS, WRONG_THINGS, all_chances, bush, chain_of, check_bad_table,
    check_bad_talk, end, plain_chances, plain_ends, plain_things, say, sized, some_talk,
)

LOW = say("right", ((1, 0), end(0)), ((0, 1), end(3)))
TALK = say("left", ((1, 0), LOW), ((0, 1), end(2)))
TOSS = say("left", ((1, 3), end(0)), ((1, 1), end(1)))

# What is no way of a talk of which the first place has two branches, with an end behind (1,).
WRONG_WAYS = [value for value in WRONG_VALUES + WRONG_INTEGERS + WRONG_TABLES if value not in ((), (0, 1))] + [
    [], [0], [1], [0, 0], "0", "", (2,), (6,), (-1,), (10 ** 40,), (0, 2), (0, -1), (0, 0, 0), (1, 0), (1, 1),
    (True,), (False,), (0, True), (0, False), (False, 0), ("0",), (0, "0"), (None,), (0, None), ((0,),), (0, (0,)),
    ((0, 0),), ([0],), (0, [0]), ({0: 0},), {0: 0}, {}, (0, 0, None), (1, None),
]


class Examples(unittest.TestCase):
    def test_the_first(self):
        self.assertEqual(
            [is_talk(BIDS, TALK), size_of(BIDS, TALK), chances(BIDS, TALK, 0, 1), heard(BIDS, TALK, (0,)),
             comes_for(BIDS, TALK, (0, 1))],
            [True, (2, 3), {(0, 1): (1, 1)}, "right", ((0,), (1,))],
        )

    def test_the_second(self):
        self.assertEqual(chances(((0,), (0,)), TOSS, 1, 0), {(0,): (3, 4), (1,): (1, 4)})


class IsTalk(unittest.TestCase):
    def test_answers(self):
        for answer in range(-3, 105):
            self.assertIs(is_talk(WIDE, end(answer)), 0 <= answer <= 99)

    def test_weights(self):
        for weight in list(range(-3, 4)) + list(range(996, 1005)):
            with self.subTest(weight):
                talk = say("left", ((weight, 1), end(0)), ((1, 0), end(1)))
                self.assertIs(is_talk(WIDE, talk), 0 <= weight <= 999)

    def test_numbers_of_branches(self):
        for many in range(10):
            self.assertIs(is_talk(WIDE, say("left", *[((1, 1), end(0))] * many)), 1 <= many <= 6)
            self.assertIs(is_talk(WIDE, say("right", *[((1, 1, 1), end(0))] * many)), 1 <= many <= 6)

    def test_as_many_weights_as_things(self):
        for rows, columns, many in product(range(1, 7), range(1, 7), range(8)):
            table = ((0,) * columns,) * rows
            self.assertIs(is_talk(table, say("left", ((1,) * many, end(0)))), many == rows)
            self.assertIs(is_talk(table, say("right", ((1,) * many, end(0)))), many == columns)

    def test_weights_above_0(self):
        for weights in product((0, 1, 999), repeat=6):
            one, other = weights[:3], weights[3:]
            right = any(one) and any(other) and all(a or b for a, b in zip(one, other))
            self.assertIs(is_talk(WIDE, say("right", (one, end(0)), (other, end(1)))), right)

    def test_400_things_and_no_more(self):
        for many in (1, 2, 7, 398, 399, 400, 401, 402, 500):
            for last in (end(0), end(99)):
                with self.subTest(many):
                    self.assertEqual(len(plain_things(sized(many, last))), many)
                    self.assertIs(is_talk(WIDE, sized(many, last)), many <= 400)

    def test_the_401st_thing(self):
        for many in (401, 402, 403, 430, 800):
            error = error_of(size_of, WIDE, sized(many))
            self.assertIs(type(error), BadTalk)
            self.assertEqual(error.way, list(plain_things(sized(many)))[400])

    def test_40_places_on_a_way_and_no_more(self):
        for many in (1, 39, 40, 41, 42, 60):
            for last in (end(0), LEFT_ONE, RIGHT_ONE):
                with self.subTest(many):
                    self.assertIs(is_talk(WIDE, chain_of(many, last)), many + (last != end(0)) <= 40)

    def test_40_places_on_each_of_many_ways(self):
        talk = say("left", *[((1, 1), chain_of(39))] * 6)
        self.assertIs(is_talk(WIDE, talk), True)
        self.assertEqual(size_of(WIDE, talk), (235, 6))
        talk = say("left", *[((1, 1), chain_of(39))] * 5, ((1, 1), chain_of(40)))
        self.assertEqual(error_of(size_of, WIDE, talk).way, (5,) + (0,) * 39)

    def test_a_talk_that_stands_many_times_in_itself(self):
        self.assertIs(is_talk(WIDE, bush(3)), True)
        self.assertIs(is_talk(WIDE, bush(40)), False)
        self.assertIs(is_talk(WIDE, bush(60)), False)
        self.assertEqual(size_of(WIDE, bush(3)), (43, 216))

    def test_wrong_values(self):
        for value in WRONG_THINGS:
            self.assertIs(is_talk(WIDE, value), False)
        for value, _ in WRONG_TALKS:
            self.assertIs(is_talk(WIDE, value), False)

    def test_talks_by_chance(self):
        chance = random.Random(1)
        for table in random_tables(100, 5, 1):
            talk = some_talk(chance, table, 3)
            self.assertIs(is_talk(table, talk), True)
            self.assertIs(is_talk(table, list(talk)), False)

    def test_a_talk_of_another_table(self):
        self.assertIs(is_talk(((0,), (0,), (0,)), TALK), False)
        self.assertIs(is_talk(((0, 1, 2), (0, 1, 2)), TALK), False)
        self.assertIs(is_talk(((7, 7), (7, 7)), TALK), True)


class SizeOf(unittest.TestCase):
    def test_sizes(self):
        self.assertEqual(size_of(WIDE, end(5)), (0, 1))
        self.assertEqual(size_of(WIDE, LEFT_ONE), (1, 1))
        self.assertEqual(size_of(WIDE, chain_of(40)), (40, 1))

    def test_sizes_by_chance(self):
        chance = random.Random(2)
        for table in random_tables(100, 5, 2):
            talk = some_talk(chance, table, 3)
            things = plain_things(talk).values()
            places = sum(1 for thing in things if thing[0] == "say")
            self.assertEqual(size_of(table, talk), (places, len(things) - places))


class Chances(unittest.TestCase):
    def check(self, table, talk):
        for (x, y), coming in all_chances(table, talk).items():
            told = chances(table, talk, x, y)
            self.assertEqual(told, {way: (top.numerator, top.denominator) for way, top in coming.items()})
            self.assertEqual(sum(coming.values()), 1)
            for way, (top, low) in told.items():
                self.assertIs(type(way), tuple)
                self.assertEqual(gcd(top, low), 1)
                self.assertTrue(0 < top <= low)

    def test_an_end(self):
        self.assertEqual(chances(WIDE, end(4), 0, 0), {(): (1, 1)})

    def test_ways_that_cannot_come_are_left_out(self):
        below = say("left", ((1, 0), end(1)), ((0, 1), end(2)))
        talk = say("left", ((5, 0), end(0)), ((0, 1), below), ((5, 0), end(3)))
        self.assertEqual(chances(BIDS, talk, 0, 0), {(0,): (1, 2), (2,): (1, 2)})
        self.assertEqual(chances(BIDS, talk, 1, 1), {(1, 1): (1, 1)})

    def test_chances_of_both_multiply(self):
        toss = say("right", ((1, 2), end(0)), ((2, 1), end(1)))
        talk = say("left", ((4, 1), toss), ((6, 1), end(2)))
        self.assertEqual(chances(BIDS, talk, 0, 0), {(0, 0): (2, 15), (0, 1): (4, 15), (1,): (3, 5)})
        self.assertEqual(chances(BIDS, talk, 1, 1), {(0, 0): (1, 3), (0, 1): (1, 6), (1,): (1, 2)})

    def test_greatest_weights(self):
        talk = say("left", ((999, 999), end(0)), *[((999, 1), end(1))] * 5)
        self.assertEqual(chances(BIDS, talk, 0, 0), {(k,): (1, 6) for k in range(6)})
        self.assertEqual(chances(BIDS, talk, 1, 0)[(0,)], (999, 1004))

    def test_a_long_way(self):
        talk = end(0)
        for _ in range(40):
            talk = say("right", ((999, 1), talk), ((1, 998), end(1)))
        self.assertEqual(chances(BIDS, talk, 0, 0)[(0,) * 40], (999 ** 40, 1000 ** 40))
        self.assertEqual(chances(BIDS, talk, 0, 1)[(0,) * 40], (1, 999 ** 40))
        self.check(BIDS, talk)

    def test_many_things(self):
        self.check(WIDE, sized(400))

    def test_by_chance(self):
        chance = random.Random(3)
        for table in random_tables(120, 5, 3):
            self.check(table, some_talk(chance, table, 3))
            self.check(table, some_talk(chance, table, 3, plain=True))

    def test_the_dict_is_new_each_time(self):
        told = chances(BIDS, TALK, 0, 1)
        told.clear()
        self.assertEqual(chances(BIDS, TALK, 0, 1), {(0, 1): (1, 1)})


class Ways(unittest.TestCase):
    def test_ways_that_cannot_come_are_ways(self):
        talk = say("left", ((1, 0), say("left", ((1, 0), end(0)), ((0, 1), end(7)))), ((0, 1), end(2)))
        self.assertEqual(heard(BIDS, talk, (0, 1)), 7)
        self.assertEqual(comes_for(BIDS, talk, (0, 1)), ((), (0, 1)))
        self.assertEqual(comes_for(BIDS, talk, (0, 0)), ((0,), (0, 1)))
        self.assertEqual(comes_for(BIDS, talk, ()), ((0, 1), (0, 1)))
        self.assertEqual(heard(BIDS, talk, ()), "left")

    def test_either_and_both_may_be_none(self):
        none = say("right", ((1, 0), say("right", ((1, 0), end(0)), ((0, 1), end(1)))), ((0, 1), end(2)))
        self.assertEqual(comes_for(BIDS, none, (0, 1)), ((0, 1), ()))
        talk = say("left", ((1, 0), say("left", ((1, 0), end(0)), ((0, 1), none))), ((0, 1), end(2)))
        self.assertEqual(comes_for(BIDS, talk, (0, 1, 0, 1)), ((), ()))

    def test_an_end_alone(self):
        self.assertEqual(heard(WIDE, end(99), ()), 99)
        self.assertEqual(comes_for(WIDE, end(99), ()), ((0, 1), (0, 1, 2)))
        for way in ((0,), (1,), (0, 0), [], None):
            self.assertIs(type(error_of(heard, WIDE, end(99), way)), NoWay)

    def test_all_ways_by_chance(self):
        chance = random.Random(4)
        for table in random_tables(100, 5, 4):
            talk = some_talk(chance, table, 3)
            coming = all_chances(table, talk)
            for way, thing in plain_things(talk).items():
                self.assertEqual(heard(table, talk, way), thing[1])
                lefts, rights = comes_for(table, talk, way)
                self.assertEqual(lefts, tuple(sorted(set(lefts))))
                self.assertEqual(rights, tuple(sorted(set(rights))))
                for (x, y), ends in coming.items():
                    some = any(longer[:len(way)] == way for longer in ends)
                    self.assertIs(some, x in lefts and y in rights)

    def test_things_of_one_do_not_hang_on_the_other(self):
        chance = random.Random(5)
        for table in random_tables(60, 5, 5):
            talk = some_talk(chance, table, 3, plain=True)
            for way in plain_ends(talk):
                lefts, rights = range(len(table)), range(len(table[0]))
                for length, number in enumerate(way):
                    place = plain_things(talk)[way[:length]]
                    weights = place[2][number][0]
                    if place[1] == "left":
                        lefts = [x for x in lefts if weights[x]]
                    else:
                        rights = [y for y in rights if weights[y]]
                self.assertEqual(comes_for(table, talk, way), (tuple(lefts), tuple(rights)))

    def test_no_way(self):
        for way in WRONG_WAYS:
            for call in (heard, comes_for):
                with self.subTest(call.__name__, way=str(type(way))):
                    self.assertIs(type(error_of(call, BIDS, TALK, way)), NoWay)


class WrongInputs(unittest.TestCase):
    def test_bad_table(self):
        check_bad_table(self, is_talk, TALK)
        check_bad_table(self, size_of, TALK)
        check_bad_table(self, chances, TALK, 0, 1)
        check_bad_table(self, heard, TALK, ())
        check_bad_table(self, comes_for, TALK, ())

    def test_bad_talk(self):
        check_bad_talk(self, size_of)
        check_bad_talk(self, chances, 0, 0)
        check_bad_talk(self, heard, ())
        check_bad_talk(self, comes_for, ())

    def test_bad_thing(self):
        wrong = WRONG_VALUES + [-1, 2, 3, 6, 10 ** 40, -10 ** 5000, (0,), [0], "1"]
        for value in wrong + [0, 1]:
            for other in wrong:
                for pair in ((value, other), (other, value)):
                    self.assertIs(type(error_of(chances, BIDS, TALK, *pair)), BadThing)

    def test_things_by_rows_and_columns(self):
        for x in range(-1, 8):
            for y in range(-1, 8):
                error = error_of(chances, ((0, 1, 2), (3, 4, 5)), end(0), x, y)
                self.assertIs(error is None, 0 <= x <= 1 and 0 <= y <= 2)
                self.assertIs(error is None or type(error) is BadThing, True)

    def test_nothing_handed_in_is_changed(self):
        for value, _ in WRONG_TALKS[::7]:
            before = copy.deepcopy(value)
            is_talk(WIDE, value)
            for rest in ((), (0, 0)):
                error_of(chances, value, TALK, *rest)
            error_of(heard, WIDE, value, value)
            error_of(comes_for, BIDS, TALK, value)
            self.assertEqual(value, before)

    def test_equal_calls_have_equal_answers(self):
        chance = random.Random(6)
        pairs = [(table, some_talk(chance, table, 3)) for table in random_tables(30, 5, 6)]
        first = [(size_of(*pair), chances(*pair, 0, 0), comes_for(*pair, ())) for pair in pairs]
        for value, _ in WRONG_TALKS[::11]:
            error_of(size_of, WIDE, value)
        again = [(size_of(*pair), chances(*pair, 0, 0), comes_for(*pair, ())) for pair in reversed(pairs)]
        self.assertEqual(first, again[::-1])

    def test_a_table_that_is_none_comes_ahead_of_all(self):
        for table in (None, [], ((0, 1), (0,))):
            self.assertIs(type(error_of(heard, table, None, None)), BadTable)
            self.assertIs(type(error_of(chances, table, None, None, None)), BadTable)

    def test_the_plain_reckoning_itself(self):
        self.assertEqual(plain_chances(TALK, 0, 1), {(0, 1): 1})


if __name__ == "__main__":
    unittest.main()
