import random
import unittest

from nomoretold.errors import (
    Doubled, InvalidText, Lacking, Needless, NotText, NoThing, TellError, Twice, Unknown,
)
from nomoretold.speeches import check, judged_text, printed, talk_of
from speaking import NAME, SomeSpeech, plain_check, with_blanks, words_of
from support import WRONG_INTEGERS, WRONG_VALUES, check_error, error_of

HEAD = "left 2 right 3; "
NO_TEXTS = [value for value in WRONG_VALUES + WRONG_INTEGERS if not isinstance(value, str)]


def invalid(place):
    return (InvalidText, "place", place)


def within(braces, inner="0"):
    """A T of so many braces within one another."""
    return "left { else : " * braces + inner + " }" * braces


class Examples(unittest.TestCase):
    def test_lacking(self):
        check_error(self, (Lacking, "thing", 1), check, "left 2 right 2; left { 0/3 : 1 }")

    def test_none(self):
        self.assertIsNone(check("left 2 right 2; low = right { 0 : 0 | 1 : 3 }; left { 0 : low | else : 2 }"))


class Told(unittest.TestCase):
    """Tests of texts with the error that check tells, which the plainer way tells, too."""

    def check(self, text, told):
        self.assertEqual(plain_check(text), told)
        if told is None:
            self.assertIsNone(check(text))
        else:
            check_error(self, told, check, text)
            check_error(self, told, talk_of, text)
            check_error(self, told, printed, text)
            check_error(self, told, judged_text, ((0, 1, 2), (3, 4, 5)), text)

    def check_marked(self, text, kind=invalid):
        """As check; the word at which the error is told stands behind a sign @."""
        place = text.index("@")
        self.check(text.replace("@", ""), kind(place))


class Speeches(Told):
    def test_right_ones(self):
        for text in (
            "left 1 right 1; 0", "left 6 right 6; 99", "left 1 right 1;0", "left1right1;0",
            "left 2 right 2; a = 5; a", "left 2 right 2; abcdefgh = 5; abcdefgh", "left 2 right 2; a = 0; b = a; a",
            "left 2 right 2; lefts = 1; rights = 2; elses = 3; l = 4; el = lefts; elses",
            "left 2 right 2; a = left { 0 : 1 | 1 : 2 }; 7",
            "left 2 right 3; right { 0 1 : 4 | 2 : 5 }", "left 2 right 3; right { 2 0 1 : 4 }",
            "left 2 right 3; right { 0/5 1 : 4 | 0/999 2/1 : 5 }", "left 2 right 3; left { 0 1 : 4 | 0 1 : 4 | 1 : 4 }",
            "left 2 right 3; left { else : 4 }", "left 2 right 3; left { else : 4 | 0 : 5 }",
            "left 6 right 1; left { 0 : 0 | 1 : 1 | 2 : 2 | 3 : 3 | 4 : 4 | 5 : 5 }",
            "left 6 right 1; left { 0 : 0 | 1 : 1 | else : 2 | 3 : 3 | 4 : 4 | 2 : 5 }",
            "left 2 right 3; left { else : left { else : 0 } | 0 : left { 1 : 2 | else : 3 } }",
        ):
            self.check(text, None)

    def test_blanks_and_line_ends(self):
        words = "left 2 right 2 ; ab = left { 0 / 7 1 : 5 | 1 : 5 } ; right { else : ab }".split()
        for between in (" ", "\n", "  ", "\n\n", " \n ", "\n" * 9):
            self.check(between.join(words), None)
        tight = "left2right2;ab=left{0/7 1:5|1:5};right{else:ab}"
        self.check(tight, None)
        self.assertEqual(talk_of(tight), talk_of(" ".join(words)))
        chance = random.Random(1)
        for _ in range(50):
            text = with_blanks(chance, words)
            self.check(text, None)
            self.assertEqual(talk_of(text), talk_of(tight))

    def test_where_blanks_must_stand(self):
        # Two numbers, or two words, that run together are another one.
        self.check("left 2 right 2; left { 0 1 : 5 }", None)
        self.check("left 2 right 2; left { 01 : 5 }", invalid(23))
        self.check("left 2 right 2; left { 10 : 5 | else : 5 }", (NoThing, "thing", 10))
        self.check("leftright 2; 0", invalid(0))
        self.check("left 2 right 2; ab = left { else : 5 }; right { else : ab }", None)
        self.check("left 2 right 2; left { 0 : a b }", invalid(29))
        self.check("left 2 right 2; left { 0 : ab }", (Unknown, "name", "ab"))

    def test_other_signs_are_no_blanks(self):
        for sign in ("\t", "\r", "\x0b", "\x0c", "\x1c", "\u00a0", "\u2028", "\u3000", "\x00"):
            self.check_marked(f"left 2 right 2;@{sign}0")
            self.check_marked(f"left@{sign}2 right 2; 0")
            self.check_marked(f"left 2 right 2; 0@{sign}")

    def test_numbers(self):
        for text in (
            "left @0 right 2; 0", "left @7 right 2; 0", "left @01 right 2; 0", "left @10 right 2; 0",
            "left 2 right @0; 0", "left 2 right @7; 0", "left 2 right @06; 0", "left @-1 right 2; 0",
            HEAD + "@100", HEAD + "@00", HEAD + "@05", HEAD + "@-1", HEAD + "@+1", HEAD + "1@_0", HEAD + "1@.0",
            HEAD + "@" + "9" * 1900, HEAD + "@" + "0" * 1900, HEAD + "left { @" + "1" * 1900 + " : 0 }",
            HEAD + "left { 0/@" + "1" * 1900 + " : 0 }", "left @" + "2" * 1900 + " right 2; 0",
            HEAD + "left { @1000 : 0 }", HEAD + "left { @00 : 0 }", HEAD + "left { 0 @01 : 0 }",
            HEAD + "left { 0/@0 : 0 }", HEAD + "left { 0/@1000 : 0 }", HEAD + "left { 0/@01 : 0 }",
            HEAD + "left { 0/@00 : 0 }", HEAD + "@\u0663", HEAD + "@\u00b2", HEAD + "@\uff11",
            "left @\u0662 right 2; 0",
            HEAD + "left { @\u0661 : 0 }",
        ):
            self.check_marked(text)
        self.check(HEAD + "left { 999 : 0 }", (NoThing, "thing", 999))
        self.check(HEAD + "left { 0/999 1/1 : 99 }", None)
        self.check(HEAD + "left { 0/10 1/100 : 10 }", None)

    def test_names(self):
        for text in (
            HEAD + "@abcdefghi = 0; 0", HEAD + "left @= 0; 0", HEAD + "@else = 0; 0", HEAD + "a = @else; 0",
            HEAD + "left { 0 1 : @else }", HEAD + "@A = 0; 0", HEAD + "a@B = 0; 0", HEAD + "a@_b = 0; 0",
            HEAD + "a@1 = 0; 0", HEAD + "1@a = 0; 0", HEAD + "@\u00e4 = 0; 0", HEAD + "a@\u00df = 0; 0",
            HEAD + "left { 0 1 : @abcdefghi }", HEAD + "@" + "a" * 1900,
        ):
            self.check_marked(text)


class Places(Told):
    def test_words_that_cannot_stand(self):
        for text in (
            "@right 2 left 2; 0", "@Left 2 right 2; 0", "@2 left", "@;", "left @right 2; 0", "left 2 @left 2; 0",
            "left 2 @2; 0", "left 2 @; 0", "left 2 right @; 0", "left 2 right 2 @0", "left 2 right 2@: 0",
            "left 2 right 2; @; 0", HEAD + "0 @;", HEAD + "0 @0", HEAD + "0 @a", HEAD + "a = 0; 0 @;", HEAD + "a @a",
            HEAD + "@= 0; 0", HEAD + "a = @; 0", HEAD + "a = @= 0; 0", HEAD + "a = 0 @0", HEAD + "a = 0 @a = 1; 0",
            HEAD + "a = b @= 0; 0", HEAD + "left { 0 1 : a @= 0 }", HEAD + "a @: 0", HEAD + "a = 0 @| 0; 0",
            HEAD + "left @: 0", HEAD + "left @0", HEAD + "left { @}", HEAD + "left { @: 0 }", HEAD + "left { @a : 0 }",
            HEAD + "left { 0 @} ", HEAD + "left { 0 : @}", HEAD + "left { 0 : @| 1 : 0 }", HEAD + "left { 0 : 0 @; }",
            HEAD + "left { 0 : 0 @1 : 0 }", HEAD + "left { 0 : 0 | @| 1 : 0 }", HEAD + "left { 0 : 0 | @}",
            HEAD + "left { 0 : 0 } @}", HEAD + "left { 0 : 0 } @| 1 : 0 }", HEAD + "left { 0 / @/ 1 : 0 }",
            HEAD + "left { 0 / @: 0 }", HEAD + "left { 0/1@/1 : 0 }", HEAD + "left { @/1 : 0 }",
            HEAD + "left { 0 @else : 0 }", HEAD + "left { else @0 : 0 }", HEAD + "left { else@/2 : 0 }",
            HEAD + "left { else @} ", HEAD + "left { else @else : 0 }", HEAD + "left { @left : 0 }",
            HEAD + "@{ 0 : 0 }", HEAD + "@( 0 )", HEAD + "left @( 0 : 0 )", HEAD + "left { 0 @, 1 : 0 }",
            HEAD + "left { 0 1 : 0 }@.", HEAD + "left { 0 1 : 0 } @left { 0 1 : 0 }", HEAD + "@\ud800",
            HEAD + "0@\ud800",
        ):
            self.check_marked(text)

    def test_a_second_else(self):
        for text in (
            HEAD + "left { else : 0 | @else : 1 }", HEAD + "left { 0 : 0 | else : 1 | 1 : 2 | @else : 3 }",
            HEAD + "left { else : left { else : 0 } | @else : 1 }",
            # It comes ahead of all faults of meaning: of names, things, and of the first else.
            HEAD + "left { 0 1 : a | else : 0 | @else : 1 }",
        ):
            self.check_marked(text)
        self.check(HEAD + "left { else : left { else : 0 } | 0 : left { else : 1 } }", None)

    def test_too_many_branches(self):
        six = " | ".join(["else : 0"] + [f"{thing} : 0" for thing in range(1, 6)])
        self.check("left 6 right 1; left { " + six + " }", None)
        self.check_marked("left 6 right 1; left { " + six + " @| 0 : 0 }")
        self.check_marked("left 6 right 1; left { " + six + " @| }")
        self.check("left 6 right 1; left { " + six + " ", invalid(len("left 6 right 1; left { " + six + " ")))
        # Braces within a branch have branches of their own.
        inner = "left { " + six + " }"
        self.check("left 6 right 1; left { " + six.replace("0 |", inner + " |") + " }", None)

    def test_deep_braces(self):
        for braces in (1, 2, 29, 30):
            self.check(HEAD + within(braces), None)
            self.check(HEAD + f"a = {within(braces)}; left {{ else : a }}", None)
        deep = HEAD + within(31)
        place = [at for at, sign in enumerate(deep) if sign == "{"][30]
        self.check(deep, invalid(place))
        self.check(HEAD + within(40), invalid(place))
        self.check(HEAD + within(30, "left { else : 0 } }"), invalid(place))
        # Braces beside one another are not within one another.
        both = "left { 0 : " + within(29) + " | 1 : " + within(29) + " }"
        self.check(HEAD + both, None)
        self.check(HEAD + "a = " + within(30) + "; b = " + within(30, "a") + "; b", None)
        for branch in ("left { @ | 1 : 0 }", "left { 1 : 0 | @ }", "left { 1 : 0 | 1 : 0 | @ | 0 1 : 0 }"):
            self.check(HEAD + branch.replace("@", "0 : " + within(29)), None)
            text = HEAD + branch.replace("@", "0 : " + within(30))
            self.check(text, invalid([at for at, sign in enumerate(text) if sign == "{"][30]))

    def test_texts_that_end_too_early(self):
        whole = "left 2 right 3; ab = left { 0/7 1 : 5 | else : 6 }; right { else : ab }"
        for length in range(len(whole)):
            text = whole[:length]
            told = plain_check(text)
            self.check(text, told)
            # A text that ends within it is too short, or ends in a number that cannot stand, or is one.
            self.assertIsNotNone(told)
        for text in ("", " ", "\n", "left", "left ", "left 2 ", "left 2 right 3;", "left 2 right 3; ab", HEAD):
            if text != "left 2 right 3; ab":
                self.check(text, invalid(len(text)))
        self.check(HEAD + "a = 0; ", invalid(23))
        self.check(HEAD + "a =\n", invalid(20))

    def test_a_sign_that_cannot_stand_comes_ahead_of_the_end(self):
        self.check_marked(HEAD + "left { 0 : @= ")

    def test_long_texts(self):
        for filling in (" ", "\n", "0", "a", "%"):
            text = HEAD + "0"
            self.check(text + filling * (2001 - len(text)), invalid(2000))
        self.check("%" * 2001, invalid(2000))
        self.check("%" * 2000, invalid(0))
        self.check("\u00e4" * 5000, invalid(2000))
        self.check("left" + " " * (1996 - len(HEAD) + 3) + HEAD[4:] + "0", None)
        self.assertEqual(len("left" + " " * (1996 - len(HEAD) + 3) + HEAD[4:] + "0"), 2000)
        self.check("left" + " " * (1996 - len(HEAD) + 4) + HEAD[4:] + "0", invalid(2000))

    def test_no_text(self):
        for value in NO_TEXTS + [b"left 2 right 2; 0", ["left 2 right 2; 0"], ("left 2 right 2; 0",)]:
            for call in (check, talk_of, printed):
                check_error(self, NotText, call, value)
            check_error(self, NotText, judged_text, ((0,),), value)


class Meanings(Told):
    def test_twice(self):
        self.check(HEAD + "a = 0; a = 0; a", (Twice, "name", "a"))
        self.check(HEAD + "a = 0; b = a; c = b; b = 7; b = d; 0", (Twice, "name", "b"))
        # The name stands ahead of what is told by it.
        self.check(HEAD + "a = 0; a = b; a", (Twice, "name", "a"))
        self.check(HEAD + "a = 0; b = c; a = 0; a", (Unknown, "name", "c"))

    def test_unknown(self):
        for text in (
            HEAD + "a", HEAD + "b = 0; a", HEAD + "b = a; a = 0; b", HEAD + "a = a; a", HEAD + "left { 0 1 : a }",
            HEAD + "a = left { 0 : 1 | 1 : a }; a", HEAD + "ab = 0; abc = 0; a",
        ):
            self.check(text, (Unknown, "name", "a"))

    def test_no_thing(self):
        self.check(HEAD + "left { 0 1 2 : 0 }", (NoThing, "thing", 2))
        self.check(HEAD + "left { 3 2 : 0 }", (NoThing, "thing", 3))
        self.check(HEAD + "right { 0 1 2 : 0 }", None)
        self.check(HEAD + "right { 0 1 2/5 3/5 : 0 }", (NoThing, "thing", 3))
        self.check(HEAD + "right { 0 : left { 0 1 2 : 0 } | else : 0 }", (NoThing, "thing", 2))
        self.check(HEAD + "left { 7 7 : 0 }", (NoThing, "thing", 7))

    def test_doubled(self):
        self.check(HEAD + "left { 0 1 0 : 0 }", (Doubled, "thing", 0))
        self.check(HEAD + "left { 0 1/2 1/3 0 : 0 }", (Doubled, "thing", 1))
        self.check(HEAD + "left { 0 0 2 : 0 }", (Doubled, "thing", 0))
        self.check(HEAD + "left { 0 1 : 0 | 0 1 : 0 }", None)
        self.check(HEAD + "left { 0 : left { 0 1 : 0 } | 1 : 0 }", None)

    def test_lacking(self):
        self.check(HEAD + "left { 0 : 0 }", (Lacking, "thing", 1))
        self.check(HEAD + "right { 1 : 0 | 1 : 0 }", (Lacking, "thing", 0))
        self.check(HEAD + "right { 0 : left { 1 : 0 } }", (Lacking, "thing", 0))
        self.check(HEAD + "right { 0 : left { 0 1 : 0 } }", (Lacking, "thing", 1))
        self.check("left 6 right 1; left { 5 0 : 1 | 1 0 : 2 }", (Lacking, "thing", 2))

    def test_needless(self):
        self.check(HEAD + "left { 0 1 : 0 | else : 0 }", Needless)
        self.check(HEAD + "left { else : 0 | 0 : 0 | 1 : 0 }", Needless)
        self.check(HEAD + "left { 0 : 0 | else : left { 1 0 : 0 | else : 0 } }", Needless)

    def test_what_is_told_at_the_closing_brace_comes_behind_what_stands_in_the_braces(self):
        self.check(HEAD + "left { 0 : a }", (Unknown, "name", "a"))
        self.check(HEAD + "left { 0 1 : 0 | else : a }", (Unknown, "name", "a"))
        self.check(HEAD + "left { 0 1 : 0 | else : right { 0 0 : 1 } }", (Doubled, "thing", 0))
        self.check(HEAD + "left { 0 : right { 2 : 1 } }", (Lacking, "thing", 0))
        self.check(HEAD + "right { 0 1 2 : left { 0 : 1 } | else : 0 }", (Lacking, "thing", 1))
        self.check(HEAD + "a = left { 0 1 : 0 | else : 0 }; a = 0; b", Needless)

    def test_what_cannot_stand_comes_ahead_of_what_is_wrong(self):
        for wrong in ("a", "left { 0 : 0 }", "left { 0 0 1 : 0 }", "left { 9 : 0 }", "left { 0 1 : 0 | else : 0 }"):
            self.check_marked(HEAD + f"b = {wrong}; 0 @;")
            self.check_marked(HEAD + wrong + "@}")

    def test_names_that_are_not_used_are_checked(self):
        self.check(HEAD + "a = left { 0 : 0 }; 5", (Lacking, "thing", 1))


class ByChance(Told):
    def test_right_speeches(self):
        chance = random.Random(2)
        for _ in range(300):
            text = SomeSpeech(chance, 3).text()
            self.check(text, None if len(text) <= 2000 else invalid(2000))

    def test_changed_speeches(self):
        chance = random.Random(3)
        others = "left right else a zz ; = { } | : / 0 1 5 999 00 ?".split()
        met = {}
        for _ in range(4000):
            words = SomeSpeech(chance, 2, 5).words
            for _ in range(chance.randint(1, 2)):
                at, way = chance.randrange(len(words)), chance.random()
                if words[at].isdigit() and way < 0.4:
                    words[at] = str(chance.randrange(7))
                elif NAME.fullmatch(words[at]) and way < 0.6:
                    words[at] = chance.choice([word for word in words if NAME.fullmatch(word)])
                elif way < 0.4:
                    words[at] = chance.choice(others + words)
                elif way < 0.7 and len(words) > 1:
                    del words[at]
                else:
                    words.insert(at, chance.choice(others + words))
            text = with_blanks(chance, words)
            told = plain_check(text)
            self.check(text, told)
            kind = told[0] if isinstance(told, tuple) else told
            met[kind] = met.get(kind, 0) + 1
        self.assertEqual(set(met), {None, InvalidText, Twice, Unknown, NoThing, Doubled, Lacking, Needless})
        self.assertGreater(min(met.values()), 5)

    def test_changed_signs(self):
        chance = random.Random(4)
        for _ in range(1500):
            text = SomeSpeech(chance, 2).text()
            at = chance.randrange(len(text))
            other = chance.choice(["", " ", "\n", "\t", "x", "0", "7", ";", "}", "E", "\u00e9"])
            text = text[:at] + other + text[at + 1:]
            self.check(text, plain_check(text))

    def test_every_error_is_one_of_the_package(self):
        chance = random.Random(5)
        for _ in range(1000):
            text = "".join(chance.choice("left right 0 1 2 ; = { } | : / else \n".split(" ")) for _ in range(30))
            error = error_of(check, text)
            self.assertIsInstance(error, TellError)
            self.assertIn(error.place, [place for place, _ in words_of(text)])


if __name__ == "__main__":
    unittest.main()
