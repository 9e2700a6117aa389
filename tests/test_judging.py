import copy
import random
import unittest
from itertools import product

from nomoretold.judging import is_right, judged, shows_fault, tells_no_more
from support import WRONG_INTEGERS, WRONG_TABLES, WRONG_VALUES, nested, random_tables, told_table
from talking import (
    BIDS, EITHER, WIDE, WRONG_TALKS, check_bad_table, check_bad_talk, end, error_of, plain_faults, plain_things,
    right_talk, say, sized, some_talk,
)

LOW = say("left", ((1, 0), end(0)), ((0, 1), end(2)))
HIGH = say("left", ((1, 0), end(3)), ((0, 1), end(2)))
HASTY = say("right", ((1, 0), LOW), ((0, 1), HIGH))


def with_places_above(talk, who, many):
    """The talk with so many places of one branch above it."""
    for _ in range(many):
        talk = say(who, ((1, 2), talk))
    return talk


class Examples(unittest.TestCase):
    def test_the_example(self):
        self.assertEqual(
            [is_right(BIDS, HASTY), tells_no_more(BIDS, HASTY), judged(BIDS, HASTY),
             shows_fault(BIDS, HASTY, judged(BIDS, HASTY))],
            [True, False, ("told", "left", 1, 0, 1, (0, 1)), True],
        )


class ByHand(unittest.TestCase):
    def check(self, table, talk, right, no_more, fault):
        self.assertIs(is_right(table, talk), right)
        self.assertIs(tells_no_more(table, talk), no_more)
        self.assertEqual(judged(table, talk), fault)

    def test_ends_alone(self):
        self.check(((4, 4), (4, 4)), end(4), True, True, None)
        self.check(((4, 4), (4, 4)), end(5), False, True, ("wrong", 0, 0, ()))
        self.check(((4, 4), (4, 5)), end(4), False, True, ("wrong", 1, 1, ()))

    def test_a_right_talk_that_tells_no_more(self):
        talk = say("left", ((1, 0), say("right", ((1, 0), end(0)), ((0, 1), end(3)))), ((0, 1), end(2)))
        self.check(BIDS, talk, True, True, None)

    def test_coins_that_tell_nothing(self):
        # Both things of left have like chances, whatever their weights.
        toss = say("left", ((1, 333), end(4)), ((2, 666), end(4)))
        self.check(((4, 4), (4, 4)), toss, True, True, None)
        self.check(((4, 4), (4, 4)), with_places_above(toss, "right", 3), True, True, None)

    def test_coins_that_tell_a_little(self):
        toss = say("left", ((1, 333), end(4)), ((2, 665), end(4)))
        self.check(((4, 4), (4, 4)), toss, True, False, ("told", "right", 0, 0, 1, (0,)))
        toss = say("right", ((1, 1), end(4)), ((998, 999), end(4)))
        self.check(((4, 4), (4, 4)), toss, True, False, ("told", "left", 0, 0, 1, (0,)))

    def test_unlike_ends_of_like_answers_are_unlike(self):
        talk = say("left", ((1, 0), end(4)), ((0, 1), end(4)))
        self.check(((4, 4), (4, 4)), talk, True, False, ("told", "right", 0, 0, 1, (0,)))
        self.check(((4, 5), (6, 4)), talk, False, True, ("wrong", 0, 1, (0,)))

    def test_wrong_comes_ahead_of_told(self):
        talk = say("left", ((1, 0), end(0)), ((0, 1), end(0)))
        self.check(EITHER, talk, False, False, ("wrong", 1, 1, (1,)))

    def test_told_to_right_comes_ahead_of_told_to_left(self):
        right_first = say("left", ((1, 0), end(0)), ((0, 1), say("right", ((1, 0), end(0)), ((0, 1), end(1)))))
        self.check(EITHER, right_first, True, False, ("told", "right", 0, 0, 1, (0,)))
        both = say("right", ((1, 0), say("left", ((1, 0), end(4)), ((0, 1), end(4)))), ((0, 1), end(4)))
        self.check(((4, 4), (4, 4)), both, True, False, ("told", "right", 0, 0, 1, (0, 0)))

    def test_told_to_right_by_the_thing_of_right_first(self):
        # At y 0 rows 1 and 2 are alike, at y 1 rows 0 and 1: what right holds counts first.
        table = ((0, 5), (1, 5), (1, 6))
        told = say(
            "left", ((1, 0, 0), say("right", ((1, 0), end(0)), ((0, 1), end(5)))),
            ((0, 1, 0), say("right", ((1, 0), end(1)), ((0, 1), end(5)))),
            ((0, 0, 1), say("right", ((1, 0), end(1)), ((0, 1), end(6)))),
        )
        self.check(table, told, True, False, ("told", "right", 0, 1, 2, (1, 0)))

    def test_told_to_left_by_the_thing_of_left_first(self):
        table = ((0, 1, 1), (5, 5, 6))
        rows = [say("left", ((1, 0), end(row)), ((0, 1), end(other))) for row, other in zip(*table)]
        told = say("right", ((1, 0, 0), rows[0]), ((0, 1, 0), rows[1]), ((0, 0, 1), rows[2]))
        self.check(table, told, True, False, ("told", "left", 0, 1, 2, (1, 0)))

    def test_an_end_that_comes_for_no_one_may_tell_anything(self):
        never = say("left", ((1, 0), end(4)), ((0, 1), end(9)))
        talk = say("left", ((1, 0), never), ((0, 1), end(5)))
        self.check(((4, 4), (5, 5)), talk, True, True, None)

    def test_what_right_cannot_say_tells_nothing(self):
        # Left's words would tell the rows apart, but at y 0 it has none: right has said so.
        table = ((4, 5), (4, 6))
        talk = say("right", ((1, 0), end(4)), ((0, 1), say("left", ((1, 0), end(5)), ((0, 1), end(6)))))
        self.check(table, talk, True, True, None)
        self.assertIs(shows_fault(table, talk, ("told", "right", 0, 0, 1, (1, 0))), False)

    def test_a_seldom_word_counts(self):
        talk = say("left", ((999, 999), end(4)), ((0, 1), end(4)))
        self.check(((4,), (4,)), talk, True, False, ("told", "right", 0, 0, 1, (0,)))
        talk = say("left", ((999, 999), end(4)), ((0, 1), end(5)))
        self.check(((4,), (4,)), talk, False, False, ("wrong", 1, 0, (1,)))

    def test_many_things(self):
        self.check(((3, 3), (3, 3)), sized(400), True, True, None)
        self.check(((3, 3), (3, 3)), sized(400, end(4)), False, True, ("wrong", 0, 0, (5, 5, 5, 0)))


class ByAPlainerWay(unittest.TestCase):
    def check(self, table, talk):
        faults = plain_faults(table, talk)
        self.assertEqual(judged(table, talk), faults[0] if faults else None)
        self.assertIs(is_right(table, talk), all(fault[0] != "wrong" for fault in faults))
        self.assertIs(tells_no_more(table, talk), all(fault[0] != "told" for fault in faults))
        for fault in faults:
            self.assertIs(shows_fault(table, talk, fault), True)

    def test_talks_by_chance(self):
        chance = random.Random(1)
        for table in random_tables(150, 3, 1):
            self.check(table, some_talk(chance, table, 3))
            self.check(table, some_talk(chance, table, 3, plain=True))

    def test_right_talks_by_chance(self):
        chance = random.Random(2)
        for table in random_tables(150, 3, 2):
            if len(table) * len(table[0]) <= 12:
                self.check(table, right_talk(chance, table, plain=True))

    def test_talks_of_told_tables_by_chance(self):
        chance = random.Random(3)
        kinds = set()
        for seed in range(120):
            table = told_table(1 + seed % 3, 1 + seed // 3 % 4, seed)
            talk = right_talk(chance, table, plain=True)
            self.check(table, talk)
            kinds.add((judged(table, talk) or ("none",))[0])
        self.assertEqual(kinds, {"none", "told"})

    def test_all_that_may_be_a_fault(self):
        chance = random.Random(4)
        tables = [table for table in random_tables(200, 3, 3) if len(table) * len(table[0]) <= 6][:25]
        for table in tables:
            talk = some_talk(chance, table, 2)
            faults = set(plain_faults(table, talk))
            ways = list(plain_things(talk)) + [(0, 0, 0, 0), (6,), (-1,)]
            things = range(-1, 1 + max(len(table), len(table[0])))
            for x, y, way in product(things, things, ways):
                fault = ("wrong", x, y, way)
                self.assertIs(shows_fault(table, talk, fault), fault in faults)
            for who, own, one, other, way in product(("left", "right"), things, things, things, ways):
                fault = ("told", who, own, one, other, way)
                self.assertIs(shows_fault(table, talk, fault), fault in faults)


class ShowsFault(unittest.TestCase):
    # It has faults of all kinds, with things and ways of 0 and 1.
    TABLE = ((0, 0), (0, 0), (0, 0))
    TALK = say(
        "left", ((1, 0, 0), say("right", ((1, 0), end(0)), ((0, 1), end(1)))), ((0, 1, 1), end(0)), ((0, 1, 0), end(1)),
    )

    def test_bools_are_no_things(self):
        for fault in (
            ("wrong", 0, 1, (0, 1)), ("wrong", 1, 0, (2,)), ("wrong", 1, 1, (2,)),
            ("told", "right", 0, 0, 1, (1,)), ("told", "right", 1, 1, 2, (1,)), ("told", "left", 0, 0, 1, (0, 0)),
            ("told", "left", 0, 0, 1, (0, 1)),
        ):
            self.assertIs(shows_fault(self.TABLE, self.TALK, fault), True)
            for k, item in enumerate(fault):
                if item in (0, 1):
                    value = fault[:k] + (bool(item),) + fault[k + 1:]
                    self.assertIs(shows_fault(self.TABLE, self.TALK, value), False)
            for k, number in enumerate(fault[-1]):
                if number in (0, 1):
                    way = fault[-1][:k] + (bool(number),) + fault[-1][k + 1:]
                    self.assertIs(shows_fault(self.TABLE, self.TALK, fault[:-1] + (way,)), False)

    def test_values_of_another_form(self):
        for fault in (("wrong", 0, 1, (0, 1)), ("told", "right", 0, 0, 1, (1,)), ("told", "left", 0, 0, 1, (0, 0))):
            wrong = [
                list(fault), fault[:-1], fault[1:], fault + (0,), fault + ((),), fault[:-1] + (list(fault[-1]),),
                fault[:-1] + (fault[-1] + (0,),), fault[:-1] + (fault[-1][:-1],), fault[:-1] + ((),),
                fault[:-1] + (str(fault[-1]),), (fault[0].upper(),) + fault[1:], ("faulty",) + fault[1:],
                {fault: True}, (fault,), str(fault), (fault[0],) + tuple(map(str, fault[1:])),
            ]
            for k in range(len(fault)):
                wrong += [fault[:k] + (value,) + fault[k + 1:] for value in WRONG_VALUES if value != fault[k]]
                wrong += [fault[:k] + (value,) + fault[k + 1:] for value in (99, -1, 10 ** 5000, nested("list", 199))]
            for value in wrong:
                self.assertIs(shows_fault(self.TABLE, self.TALK, value), False)

    def test_like_things_and_a_greater_one_ahead(self):
        for fault in (("told", "right", 0, 0, 1, (1,)), ("told", "left", 0, 0, 1, (0, 0))):
            self.assertIs(shows_fault(self.TABLE, self.TALK, fault), True)
            self.assertIs(shows_fault(self.TABLE, self.TALK, fault[:3] + (1, 0) + fault[5:]), False)
            self.assertIs(shows_fault(self.TABLE, self.TALK, fault[:3] + (0, 0) + fault[5:]), False)

    def test_any_value(self):
        for value in WRONG_VALUES + WRONG_INTEGERS + WRONG_TABLES:
            self.assertIs(shows_fault(self.TABLE, self.TALK, value), False)
            self.assertIs(shows_fault(((3,),), end(3), value), False)

    def test_no_fault_of_a_talk_without_any(self):
        table = ((3, 3), (3, 3))
        for value in (("wrong", 0, 0, ()), ("told", "right", 0, 0, 1, ()), ("told", "left", 0, 0, 1, ())):
            self.assertIs(shows_fault(table, end(3), value), False)


class WrongInputs(unittest.TestCase):
    def test_bad_table(self):
        for call in (is_right, tells_no_more, judged):
            check_bad_table(self, call, HASTY)
        check_bad_table(self, shows_fault, HASTY, ("wrong", 0, 0, ()))

    def test_bad_talk(self):
        for call in (is_right, tells_no_more, judged):
            check_bad_talk(self, call)
        check_bad_talk(self, shows_fault, ("wrong", 0, 0, ()))

    def test_nothing_handed_in_is_changed(self):
        for value, _ in WRONG_TALKS[::7]:
            before = copy.deepcopy(value)
            error_of(judged, WIDE, value)
            shows_fault(BIDS, HASTY, value)
            self.assertEqual(value, before)

    def test_equal_calls_have_equal_answers(self):
        chance = random.Random(5)
        pairs = [(table, some_talk(chance, table, 3)) for table in random_tables(30, 3, 5)]
        self.assertEqual([judged(*pair) for pair in pairs], [judged(*pair) for pair in reversed(pairs)][::-1])


if __name__ == "__main__":
    unittest.main()
