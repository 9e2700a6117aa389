"""Speeches and the talks that they tell: talk_of, printed, speech and judged_text."""

import random
import unittest

from nomoretold.classtalks import class_talk
from nomoretold.errors import BadTable, InvalidText, Lacking, NotText, TooMany, Twice, Unknown, Unlike
from nomoretold.judging import judged
from nomoretold.speeches import check, judged_text, printed, speech, talk_of
from nomoretold.talks import is_talk, size_of
from speaking import SomeSpeech
from support import WRONG_TABLES, WRONG_VALUES, check_error, error_of, random_tables, told_table
from talking import BIDS, bush, chain_of, check_bad_table, check_bad_talk, end, say, sized, some_talk

LOW = "left 2 right 2; low = right { 0 : 0 | 1 : 3 }; left { 0 : low | else : 2 }"
TOO_MANY = (TooMany, "most", 400)


class Examples(unittest.TestCase):
    def test_the_example(self):
        self.assertEqual(talk_of(LOW), (2, 2, (
            "say", "left", (
                ((1, 0), ("say", "right", (((1, 0), ("answer", 0)), ((0, 1), ("answer", 3))))), ((0, 1), ("answer", 2)),
            ),
        )))
        self.assertEqual(
            [printed(LOW), judged_text(((0, 3), (2, 2)), LOW)],
            ["left 2 right 2;\nlow = right { 0 : 0 | 1 : 3 };\nleft { 0 : low | else : 2 }", None],
        )
        self.assertEqual(
            speech(((0, 3), (2, 2)), talk_of(LOW)[2]), "left 2 right 2;\nleft { 0 : right { 0 : 0 | 1 : 3 } | 1 : 2 }",
        )


class TalkOf(unittest.TestCase):
    def test_by_hand(self):
        self.assertEqual(talk_of("left 6 right 1; 99"), (6, 1, ("answer", 99)))
        self.assertEqual(talk_of("left 1 right 6; a = 7; b = a; b"), (1, 6, ("answer", 7)))
        self.assertEqual(
            talk_of("left 3 right 2; left { 2/5 0 : 1 | 1 2/999 : 2 }"),
            (3, 2, say("left", ((1, 0, 5), end(1)), ((0, 1, 999), end(2)))),
        )

    def test_else(self):
        for text, talk in (
            ("left { else : 1 }", say("left", ((1, 1, 1), end(1)))),
            ("left { 1/7 : 0 | else : 1 }", say("left", ((0, 7, 0), end(0)), ((1, 0, 1), end(1)))),
            ("left { else : 1 | 1/7 : 0 }", say("left", ((1, 0, 1), end(1)), ((0, 7, 0), end(0)))),
            ("left { 0 : 0 | else : 1 | 2 0/3 : 2 }",
             say("left", ((1, 0, 0), end(0)), ((0, 1, 0), end(1)), ((3, 0, 1), end(2)))),
            # An else of braces within these has nothing to do with the one of these.
            ("left { 0 : left { else : 4 } | else : left { 1 : 5 | else : 6 } }",
             say("left", ((1, 0, 0), say("left", ((1, 1, 1), end(4)))),
                 ((0, 1, 1), say("left", ((0, 1, 0), end(5)), ((1, 0, 1), end(6)))))),
        ):
            self.assertEqual(talk_of("left 3 right 1; " + text), (3, 1, talk))

    def test_speeches_by_chance(self):
        chance = random.Random(1)
        for _ in range(400):
            some = SomeSpeech(chance, 3)
            text = some.text()
            if len(text) <= 2000:
                lefts, rights, talk = some.triple
                many = sum(1 for _ in things_of(talk))
                if many > 400:
                    check_error(self, TOO_MANY, talk_of, text)
                else:
                    self.assertEqual(talk_of(text), some.triple)
                    self.assertIs(is_talk(((0,) * rights,) * lefts, talk_of(text)[2]), True)

    def test_how_many_things(self):
        for text, many in speeches_of_sizes():
            self.assertIsNone(check(text))
            if many <= 400:
                self.assertEqual(sum(1 for _ in things_of(talk_of(text)[2])), many)
            else:
                check_error(self, TOO_MANY, talk_of, text)

    def test_400_and_401_things(self):
        sizes = {many for _, many in speeches_of_sizes()}
        self.assertTrue({399, 400, 401, 402} <= sizes)

    def test_places_on_a_way(self):
        for places in (30, 31, 39, 40, 41, 42, 60):
            inner = min(places, 30)
            text = "left 1 right 1; a = " + "left { 0 : " * inner + "5" + " }" * inner + "; "
            text += "left { 0 : " * (places - inner) + "a" + " }" * (places - inner)
            self.assertIsNone(check(text))
            if places <= 40:
                self.assertEqual(talk_of(text)[2], one_chain(places))
                self.assertIsNone(judged_text(((5,),), text))
            else:
                check_error(self, TOO_MANY, talk_of, text)
                check_error(self, TOO_MANY, judged_text, ((5,),), text)

    def test_the_longest_way_counts(self):
        text = "left 1 right 1; a = " + within(20, "5") + "; b = " + within(20, "a") + "; left { 0 : 5 | 0 : %s }"
        self.assertIsNone(error_of(talk_of, text.replace("%s", within(19, "a"))))
        check_error(self, TOO_MANY, talk_of, text.replace("%s", "b"))
        check_error(self, TOO_MANY, talk_of, text.replace("0 : 5 | 0 : %s", "0 : b | 0 : 5"))

    def test_names_that_are_not_used_do_not_count(self):
        great = "left 1 right 1; a = left { 0 : 5 | 0 : 5 | 0 : 5 | 0 : 5 | 0 : 5 | 0 : 5 }; "
        for name, ahead in zip("bcdefghijklm", "abcdefghijkl"):
            great += f"{name} = left {{ 0 : {ahead} | 0 : {ahead} | 0 : {ahead} }}; "
        self.assertEqual(talk_of(great + "7"), (1, 1, ("answer", 7)))
        self.assertEqual(size_of(((5,),), talk_of(great + "b")[2]), (4, 18))
        check_error(self, TOO_MANY, talk_of, great + "m")

    def test_talks_beyond_all_counting(self):
        text = "left 1 right 1; a = 5; "
        names = ["a"] + [one + other for one in "abc" for other in "abcdefg"]
        for name, ahead in zip(names[1:], names):
            text += name + " = left { " + " | ".join([f"0 : {ahead}"] * 6) + " }; "
        self.assertLessEqual(len(text), 2000)
        check_error(self, TOO_MANY, talk_of, text + names[-1])
        self.assertIsNone(check(text + names[-1]))

    def test_errors_of_check_come_ahead(self):
        great = "a = left { 0 : 5 | 0 : 5 | 0 : 5 | 0 : 5 | 0 : 5 | 0 : 5 }; "
        for name, ahead in zip("bcdefg", "abcdef"):
            great += f"{name} = left {{ 0 : {ahead} | 0 : {ahead} | 0 : {ahead} }}; "
        check_error(self, TOO_MANY, talk_of, "left 1 right 1; " + great + "g")
        for more, told in (
            ("left { 0 : g | 0 : h }", (Unknown, "name", "h")), ("a = g; g", (Twice, "name", "a")),
            ("g ;", (InvalidText, "place", 16 + len(great) + 2)), ("g" + " " * 2000, (InvalidText, "place", 2000)),
        ):
            check_error(self, told, talk_of, "left 1 right 1; " + great + more)
        check_error(self, (Lacking, "thing", 1), talk_of, "left 2 right 1; " + great + "g")


def within(braces, inner):
    return "left { 0 : " * braces + inner + " }" * braces


def one_chain(places):
    talk = ("answer", 5)
    for _ in range(places):
        talk = ("say", "left", (((1,), talk),))
    return talk


def things_of(talk):
    """The things of a talk, at most some more than 400."""
    waiting, met = [talk], 0
    while waiting and met < 500:
        thing = waiting.pop()
        met += 1
        yield thing
        if thing[0] == "say":
            waiting += [behind for _, behind in thing[2]]


def speeches_of_sizes():
    """Pairs of a speech and how many places and ends it tells in all, 395 to 405 among them."""
    found = []
    for many in list(range(1, 9)) + list(range(395, 406)) + [1000, 5000]:
        names = {}
        last = _name_of(many, names)
        text = "left 1 right 1; " + "".join(f"{name} = {told}; " for name, told in names.values()) + last
        found.append((text, many))
    return found


def _name_of(many, names):
    """A name of a T of so many things; names: by these numbers the names and what is told by them."""
    if many not in names:
        name = "".join("abcdefghij"[int(figure)] for figure in str(many))
        told = "5"
        if many > 1:
            # At most six branches; those of one size share a name.
            shares = [(many - 1 + k) // min(6, many - 1) for k in range(min(6, many - 1))]
            told = "left { " + " | ".join(f"0 : {_name_of(share, names)}" for share in shares) + " }"
        names[many] = (name, told)
    return names[many][0]


class Printed(unittest.TestCase):
    def test_by_hand(self):
        for text, told in (
            ("left 1right 6;5", "left 1 right 6;\n5"),
            ("left 3 right 1;ab=left{2/1 0/5 1/10:7};\n\n left {else:ab|0:8}",
             "left 3 right 1;\nab = left { 0/5 1/10 2 : 7 };\nleft { else : ab | 0 : 8 }"),
            ("left 2 right 2; a = 1; b = a; c = b; 0", "left 2 right 2;\na = 1;\nb = a;\nc = b;\n0"),
            ("left 3 right 2 ; left { 1 / 2 0 / 1 : right{0:1|1 : 2} | else : 3 | 1 : 4 }",
             "left 3 right 2;\nleft { 0 1/2 : right { 0 : 1 | 1 : 2 } | else : 3 | 1 : 4 }"),
        ):
            self.assertEqual(printed(text), told)

    def test_speeches_by_chance(self):
        chance = random.Random(2)
        longer = 0
        for _ in range(400):
            some = SomeSpeech(chance, 3)
            text = some.text()
            if len(text) <= 2000:
                self.assertEqual(printed(text), some.printed)
                if len(some.printed) <= 2000:
                    self.assertEqual(printed(some.printed), some.printed)
                longer += len(some.printed) > len(text)
        self.assertGreater(longer, 5)

    def test_it_tells_the_same_talk(self):
        chance = random.Random(3)
        for _ in range(200):
            text = SomeSpeech(chance, 2).text()
            self.assertEqual(talk_of(printed(text)), talk_of(text))

    def test_longer_than_a_speech(self):
        letters = "abcdefghijklmnopqrstuvwxyz"
        names = list(letters) + [letter * 2 for letter in letters[:18]]
        text = "left6right1;" + "".join(f"{name}=left{{0 1 2 3 4 5:0|0 1 2 3 4 5:1}};" for name in names) + "99"
        self.assertLessEqual(len(text), 2000)
        told = printed(text)
        self.assertGreater(len(told), 2000)
        check_error(self, (InvalidText, "place", 2000), printed, told)
        lines = told.split("\n")
        self.assertEqual(lines[0], "left 6 right 1;")
        self.assertEqual(lines[1], "a = left { 0 1 2 3 4 5 : 0 | 0 1 2 3 4 5 : 1 };")
        self.assertEqual(lines[-1], "99")
        self.assertEqual(len(lines), 2 + len(names))

    def test_a_talk_of_too_many_things_is_printed(self):
        text = "left 1 right 1;\na = left { 0 : 5 | 0 : 5 | 0 : 5 | 0 : 5 | 0 : 5 | 0 : 5 };\n"
        for name, ahead in zip("bcdefg", "abcdef"):
            text += f"{name} = left {{ 0 : {ahead} | 0 : {ahead} | 0 : {ahead} }};\n"
        self.assertEqual(printed(text + "g"), text + "g")


class Speech(unittest.TestCase):
    def test_by_hand(self):
        self.assertEqual(speech(((4, 4),), end(99)), "left 1 right 2;\n99")
        self.assertEqual(
            speech(((4, 4, 4), (4, 4, 4)), say("right", ((0, 1, 999), end(0)), ((10, 0, 1), end(10)))),
            "left 2 right 3;\nright { 1 2/999 : 0 | 0/10 2 : 10 }",
        )

    def test_read_back(self):
        chance = random.Random(4)
        for table in random_tables(200, 4, 4):
            talk = some_talk(chance, table, 3)
            told = speech(table, talk)
            if len(told) <= 2000:
                self.assertEqual(talk_of(told), (len(table), len(table[0]), talk))
                self.assertEqual(printed(told), told)

    def test_class_talks_read_back(self):
        for seed in range(72):
            table = told_table(1 + seed % 6, 1 + seed // 6 % 6, seed)
            told = speech(table, class_talk(table))
            self.assertNotIn("else", told)
            self.assertNotIn("=", told)
            if len(told) <= 2000:
                self.assertEqual(talk_of(told)[2], class_talk(table))
                self.assertIsNone(judged_text(table, told))

    def test_longer_than_a_speech(self):
        table = ((3, 3), (3, 3))
        told = speech(table, sized(400))
        self.assertGreater(len(told), 2000)
        check_error(self, (InvalidText, "place", 2000), talk_of, told)
        self.assertTrue(told.startswith("left 2 right 2;\nleft { 0 1 : left { 0 1 : "))
        self.assertEqual((told.count("{"), told.count("3")), size_of(table, sized(400)))
        self.assertEqual(told.count("|"), 400 - 1 - told.count("{"))
        self.assertGreater(len(speech(table, bush(3))), 2000)

    def test_deeper_than_a_speech(self):
        table = ((0, 0), (0, 0))
        for places in (30, 31, 40):
            told = speech(table, chain_of(places))
            self.assertEqual(told, "left 2 right 2;\n" + "left { 0 1 : " * places + "0" + " }" * places)
            if places > 30:
                self.assertIs(type(error_of(talk_of, told)), InvalidText)
            else:
                self.assertEqual(talk_of(told)[2], chain_of(places))

    def test_wrong_talks_of_a_table_are_written_too(self):
        self.assertEqual(speech(BIDS, end(7)), "left 2 right 2;\n7")

    def test_bad_table(self):
        check_bad_table(self, speech, end(0))

    def test_bad_talk(self):
        check_bad_talk(self, speech)


class JudgedText(unittest.TestCase):
    def test_by_hand(self):
        hasty = "left 2 right 2; right { 0 : left { 0 : 0 | 1 : 2 } | else : left { 0 : 3 | 1 : 2 } }"
        self.assertEqual(judged_text(BIDS, hasty), ("told", "left", 1, 0, 1, (0, 1)))
        self.assertEqual(judged_text(BIDS, "left 2 right 2; 3"), ("wrong", 0, 0, ()))

    def test_as_judged(self):
        chance = random.Random(5)
        for table in random_tables(120, 3, 5):
            talk = some_talk(chance, table, 2)
            self.assertEqual(judged_text(table, speech(table, talk)), judged(table, talk))

    def test_unlike(self):
        for rows in range(1, 7):
            for columns in range(1, 7):
                table = ((5,) * columns,) * rows
                for lefts, rights in ((2, 3), (3, 2), (rows, 2), (3, columns), (rows, columns)):
                    text = f"left {lefts} right {rights}; 5"
                    if (lefts, rights) == (rows, columns):
                        self.assertIsNone(judged_text(table, text))
                    else:
                        check_error(self, Unlike, judged_text, table, text)

    def test_bad_table(self):
        for table in WRONG_TABLES:
            for text in ("left 2 right 2; 0", "left", None):
                check_error(self, BadTable, judged_text, table, text)

    def test_errors_of_the_text_come_ahead_of_unlike(self):
        table = ((5, 5),)
        for value in [value for value in WRONG_VALUES if not isinstance(value, str)]:
            check_error(self, NotText, judged_text, table, value)
        check_error(self, (InvalidText, "place", 7), judged_text, table, "left 2 r")
        check_error(self, (InvalidText, "place", 12), judged_text, table, "left 2 right")
        check_error(self, (Unknown, "name", "a"), judged_text, table, "left 2 right 2; a")
        deep = "left 1 right 1; a = " + within(30, "5") + "; " + within(11, "a")
        check_error(self, TOO_MANY, judged_text, table, deep)
        check_error(self, Unlike, judged_text, table, deep.replace(within(11, "a"), within(10, "a")))


if __name__ == "__main__":
    unittest.main()
