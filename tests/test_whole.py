"""What the document promises over the whole program ([1], [26])."""

import copy
import importlib
import random
import unittest

from nomoretold import errors
from nomoretold.classtalks import class_talk, fewest_turns
from nomoretold.desks import Desk, desk_of
from nomoretold.fewwords import fewest_words
from nomoretold.knots import can_be_told
from nomoretold.known import first_price
from nomoretold.made import product
from nomoretold.masks import mask_views
from nomoretold.shares import seen
from nomoretold.sheets import share_views
from nomoretold.speeches import speech
from nomoretold.tables import part_table
from nomoretold.talks import chances
from nomoretold.votes import odd_square
from support import WRONG_INTEGERS, WRONG_PARTS, WRONG_TABLES, WRONG_VALUES, plain_parts, random_tables, told_table
from talking import BIDS, BY_RIGHT, EITHER, WRONG_THINGS, end, say
from test_form import INTERFACE

TOSS = say("left", ((1, 3), end(0)), ((1, 1), end(3)))
TABLES = [BIDS, EITHER, ((5,),), ((0, 1, 2), (1, 2, 0)), ((4, 4), (4, 4)), BY_RIGHT, ((0, 0, 1), (2, 4, 1), (2, 3, 3))]
TALKS = [class_talk(BIDS), class_talk(BY_RIGHT), end(0), end(4), end(5), TOSS]
VOTES = [((2, 2, 2), "00010111"), ((2, 2), "0110"), ((2, 3), "010011")]
SHEETS = [(("own", 0), ("own", 1), ("times", 0, 1)), (("own", 0), ("own", 1), ("sum", 0, 1)), (("number", 3),)]

# For each argument of the interface, right values or nearly right ones.
GIVEN = {
    "table": TABLES, "one": TABLES, "other": TABLES, "talk": TALKS,
    "value": TABLES + TALKS + [("wrong", 1, 1, ()), ("told", "right", 0, 0, 1, (0,)), odd_square(VOTES[0])],
    "part": [((0,), (0,)), ((0, 1), (0, 1)), ((0, 1), (1,))], "x": [0, 1], "y": [0, 1],
    "way": [(), (0,), (1,), (0, 1)], "odds": [((1, 1), (1, 1)), ((3, 0), (0, 99)), ((1,), (1,))],
    "lots": [((0, 2), (3,)), ((0,), (1,)), ((0, 1),), ((5,),)], "n": [1, 2, 6], "m": [1, 12],
    "rows": [1, 2], "columns": [1, 3], "many": [2, 3, 4], "size": [1, 2, 3],
    "text": [
        speech(BIDS, TALKS[0]), "left 2 right 2; a = 4; left { 0 : a | else : a }", "left 1 right 1; 5", "left 2", "",
        "rows 2\n0 3\n2 2\n", "rows 1\n5\n", "rows 2\n0 3\n2 2\nleft 0\nright 1\n", "rows 2\n0 3\n",
    ],
    "vote": VOTES, "things": [(0, 1), (1, 0, 1), (0, 0, 0), (1, 2, 0, 3)],
    "square": [odd_square(VOTES[0]), (0, 1, (0, 0), 1, 1), (0, 1, (0, 0), 1, 2)],
    "bits": [(0, 1), (1, 0, 1)], "coins": [((0,), (1,)), ((0, 1), (1, 1), (0, 0)), (1, 2), (1, 0, 0, 2, 1), ()],
    "lot": [(), (0,), (0, 1), (2,), (0, 1, 2)], "p": [5, 7, 13], "secret": [0, 4, 6],
    "points": [((1, 0),), ((1, 4), (3, 2))],
    "sheet": SHEETS,
}
WRONG = WRONG_VALUES + WRONG_INTEGERS + WRONG_TABLES + WRONG_PARTS + WRONG_THINGS + [
    value for values in GIVEN.values() for value in values
]


def all_functions():
    return [
        (getattr(importlib.import_module(f"nomoretold.{module}"), name), arguments)
        for module, functions in INTERFACE.items() for name, arguments in functions.items()
    ]


def some_calls(seed, many, most_wrong):
    """Pairs of a function of the interface and arguments by chance, some of them wrong."""
    chance = random.Random(seed)
    for call, arguments in all_functions():
        takes_long = call.__name__ in ("masks_tell_no_more", "seen", "share_views", "count_told")
        for _ in range(many // 10 if takes_long else many):
            given = [chance.choice(GIVEN[argument]) for argument in arguments]
            for _ in range(chance.randint(0, most_wrong)):
                given[chance.randrange(len(given))] = chance.choice(WRONG)
            yield call, given


def outcome(call, given):
    """What comes of a call, so that it can be compared."""
    try:
        answer = call(*given)
    except errors.TellError as error:
        return type(error).__name__, vars(error)
    return "answer", answer.text() if isinstance(answer, Desk) else answer


class AnyValues(unittest.TestCase):
    def test_no_other_errors_are_raised(self):
        met = set()
        for call, given in some_calls(1, 150, 2):
            with self.subTest(call.__name__):
                met.add(outcome(call, given)[0])
        self.assertGreater(len(met), 25)

    def test_nothing_handed_in_is_changed(self):
        for call, given in some_calls(2, 40, 2):
            with self.subTest(call.__name__):
                before = copy.deepcopy(given)
                outcome(call, given)
                self.assertEqual(given, before)

    def test_equal_calls_have_equal_answers(self):
        calls = list(some_calls(3, 25, 1))
        first = [outcome(call, given) for call, given in calls]
        again = [outcome(call, copy.deepcopy(given)) for call, given in reversed(calls)]
        self.assertEqual(first, again[::-1])

    def test_questions_are_answered_by_bools(self):
        answers = {}
        for call, given in some_calls(4, 250, 1):
            if call.__name__.startswith(("is_", "can_", "tells_", "shows_")):
                kind, answer = outcome(call, given)
                if kind == "answer":
                    self.assertIs(type(answer), bool)
                    answers.setdefault(call.__name__, set()).add(answer)
        self.assertEqual(set(answers), {
            "is_table", "is_knotted", "can_be_told", "is_talk", "is_right", "tells_no_more", "shows_fault", "shows_odd",
        })
        for name, met in answers.items():
            self.assertTrue(met == {True, False} or name.startswith("shows_"))

    def test_every_function_has_an_answer(self):
        told = {call.__name__ for call, given in some_calls(5, 200, 0) if outcome(call, given)[0] == "answer"}
        self.assertEqual(told, {call.__name__ for call, _ in all_functions()})


class Methods(unittest.TestCase):
    def test_any_values_and_nothing_changed(self):
        chance = random.Random(6)
        desk = Desk(((0, 3, 1), (2, 2, 1)))
        for _ in range(1500):
            who = chance.choice(["left", "right", chance.choice(WRONG)])
            lot = chance.choice([(0,), (1,), (0, 1), (0, 2), (0, 1, 2), chance.choice(WRONG)])
            before, given = desk.text(), copy.deepcopy((who, lot))
            error = outcome(desk.say, (who, lot))[0]
            self.assertIn(error, ("answer", "BadWho", "BadLot"))
            self.assertEqual((who, lot), given)
            self.assertEqual(desk.text() == before, error != "answer")
            if chance.random() < 0.3:
                self.assertIn(outcome(desk.undo, ())[0], ("answer", "NothingSaid"))

    def test_equal_desks_tell_the_same(self):
        for text in ("rows 2\n0 3\n2 2\nleft 0\n", "rows 1\n4 4 5\nright 0 2\nright 2\n"):
            one, other = desk_of(text), desk_of(text)
            for name in ("part", "answer", "classes", "leak", "is_kept", "said", "text"):
                self.assertEqual(getattr(one, name)(), getattr(other, name)())
                self.assertEqual(getattr(one, name)(), getattr(one, name)())


class Dicts(unittest.TestCase):
    def test_dicts_are_new_each_time(self):
        for call, given in (
            (chances, (BIDS, TOSS, 0, 0)), (mask_views, ((0, 1), (0,))), (seen, (5, 2, 1, 0, (0,))),
            (share_views, (5, 2, 1, SHEETS[1], (1, 2), (0,))),
        ):
            with self.subTest(call.__name__):
                first = call(*given)
                before = dict(first)
                self.assertIsNot(call(*given), first)
                first.clear()
                self.assertEqual(call(*given), before)


class ErrorClasses(unittest.TestCase):
    def test_bools_are_no_integers(self):
        for call, arguments in all_functions():
            for at in range(len(arguments)):
                given = [GIVEN[argument][0] for argument in arguments]
                given[at] = True
                kind, answer = outcome(call, given)
                if arguments[at] == "value":
                    self.assertIs(answer, False)
                else:
                    self.assertNotEqual(kind, "answer")

    def test_each_error_is_met(self):
        met = {outcome(call, given)[0] for call, given in some_calls(7, 400, 1)}
        direct = {error.__name__ for error in errors.TellError.__subclasses__()}
        self.assertLessEqual(met - {"answer"}, direct)
        # Those that only some values meet are raised in the tests of their modules.
        rare = {
            "TooGreat", "TooMany", "Twice", "Unknown", "NoThing", "Doubled", "Lacking", "Needless", "TooFew", "BadWho",
            "NothingSaid", "NotPlain",
        }
        self.assertLessEqual(direct - met, rare)


class WhatHolds(unittest.TestCase):
    def test_parts_of_told_tables(self):
        for seed in range(10):
            table = told_table(3, 3, 100 + seed)
            for part in plain_parts(table):
                some = part_table(table, part)
                self.assertIs(can_be_told(some), True)
                self.assertLessEqual(fewest_turns(some), fewest_turns(table))
                self.assertLessEqual(fewest_words(some), fewest_words(table))

    def test_products(self):
        kinds = set()
        tables = [table for table in random_tables(80, 6, 8) if len(table) <= 3 and len(table[0]) <= 3]
        tables += [told_table(2, 3, seed) for seed in range(6)] + [EITHER]
        for one in tables:
            for other in tables:
                if len(one) * len(other) <= 6 and len(one[0]) * len(other[0]) <= 6:
                    told = can_be_told(one), can_be_told(other)
                    self.assertIs(can_be_told(product(one, other)), all(told))
                    kinds.add(told)
        self.assertEqual(len(kinds), 4)

    def test_first_price(self):
        for n in range(1, 7):
            self.assertEqual(fewest_turns(first_price(n)), 2 * n - 2)


if __name__ == "__main__":
    unittest.main()
