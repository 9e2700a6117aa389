import random
import unittest

from nomoretold.classtalks import class_talk
from nomoretold.desks import Desk, desk_of
from nomoretold.errors import BadLot, BadTable, BadWho, InvalidLine, NotText, NothingSaid
from nomoretold.knots import can_be_told
from nomoretold.leaks import leak
from nomoretold.tabletexts import write_table
from support import (
    WRONG_INTEGERS, WRONG_TABLES, WRONG_VALUES, check_error, error_of, nested, plain_answers, plain_column_classes,
    plain_lots, plain_row_classes, random_tables, told_table,
)
from talking import BIDS, EITHER, end, say
from test_tabletexts import NO_TEXTS, WRONG_TEXTS

WRONG_WHO = [value for value in WRONG_VALUES if value != "left"] + WRONG_INTEGERS + [
    "Left", "LEFT", "left ", " right", "l", "leftright", "both", ("left",), ["left"], ["right"], ("left", "right"),
    b"left",
    {"left": 0}, "left\n",
]
# No lots of the things 0 and 1.
WRONG_LOTS = WRONG_VALUES + WRONG_INTEGERS + [
    (), (2,), (0, 2), (0, 1, 2), (-1,), (-1, 0), (1, 0), (0, 0), (0, 1, 1), [0], [0, 1], "0", "01", ("0",), ("0", "1"),
    (True,), (False,), (0, True), (False, 1), (None,), (0, None), ((0,),), (0, (1,)), (6,), (10 ** 5000,), {0: 0},
    (0, nested("list", 199)),
]


def told_of(desk):
    """All that a desk tells."""
    return (desk.part(), desk.answer(), desk.classes(), desk.leak(), desk.is_kept(), desk.said(), desk.text())


def some_sayings(chance, table, many):
    """Sayings by chance, one behind another, as pairs of who and a lot."""
    left = {"left": list(range(len(table))), "right": list(range(len(table[0])))}
    found = []
    for _ in range(many):
        who = chance.choice(("left", "right"))
        left[who] = sorted(chance.sample(left[who], chance.randint((len(left[who]) + 1) // 2, len(left[who]))))
        found.append((who, tuple(left[who])))
    return found


def plain_told(table, sayings):
    """All that a desk of the table tells after these sayings."""
    rows, columns, leaked = list(range(len(table))), list(range(len(table[0]))), set()
    for who, lot in sayings:
        if who == "left":
            leaked |= {
                ("left", frozenset((x, other)), y) for x in rows for other in rows for y in columns
                if x in lot and other not in lot and table[x][y] == table[other][y]
            }
            rows = list(lot)
        else:
            leaked |= {
                ("right", x, frozenset((y, other))) for x in rows for y in columns for other in columns
                if y in lot and other not in lot and table[x][y] == table[x][other]
            }
            columns = list(lot)
    part = (tuple(rows), tuple(columns))
    answers = plain_answers(table, part)
    text = write_table(table) + "".join(who + "".join(f" {thing}" for thing in lot) + "\n" for who, lot in sayings)
    return (
        part, min(answers) if len(answers) == 1 else None,
        (plain_row_classes(table, part), plain_column_classes(table, part)),
        len(leaked), not leaked, tuple(sayings), text,
    )


class Examples(unittest.TestCase):
    def test_the_example(self):
        desk = Desk(((0, 3), (2, 2)))
        desk.say("left", (0,))
        self.assertEqual(
            [desk.part(), desk.answer(), desk.classes(), desk.leak(), desk.is_kept(), desk.text()],
            [((0,), (0, 1)), None, (((0,),), ((0,), (1,))), 0, True, "rows 2\n0 3\n2 2\nleft 0\n"],
        )
        self.assertEqual(desk_of("rows 2\n0 3\n2 2\nright 1\n").leak(), 1)


class Methods(unittest.TestCase):
    def check(self, desk, table, sayings):
        self.assertEqual(told_of(desk), plain_told(table, sayings))

    def test_at_first(self):
        for table in random_tables(60, 4, 1):
            self.check(Desk(table), table, [])
        self.assertEqual(
            told_of(Desk(((4, 4),))), (((0,), (0, 1)), 4, (((0,),), ((0, 1),)), 0, True, (), "rows 1\n4 4\n"),
        )

    def test_sayings_by_chance(self):
        chance = random.Random(2)
        leaks = set()
        for table in random_tables(150, 3, 2):
            desk = Desk(table)
            sayings = some_sayings(chance, table, chance.randint(1, 5))
            for many, (who, lot) in enumerate(sayings, 1):
                self.assertIsNone(desk.say(who, lot))
                self.check(desk, table, sayings[:many])
            leaks.add(desk.leak())
        self.assertGreater(len(leaks), 15)

    def test_undo(self):
        chance = random.Random(3)
        for table in random_tables(60, 3, 3):
            desk, sayings = Desk(table), []
            for _ in range(12):
                if sayings and chance.random() < 0.4:
                    self.assertIsNone(desk.undo())
                    sayings.pop()
                else:
                    own = desk.part()[0]
                    sayings.append(("left", own[:chance.randint(1, len(own))]))
                    desk.say(*sayings[-1])
                self.check(desk, table, sayings)
            while sayings:
                desk.undo()
                sayings.pop()
                self.check(desk, table, sayings)
            check_error(self, NothingSaid, desk.undo)
            self.check(desk, table, [])

    def test_leak_by_hand(self):
        desk = Desk(((4, 4, 4), (4, 4, 4)))
        desk.say("right", (0,))
        self.assertEqual((desk.leak(), desk.is_kept()), (4, False))
        desk.say("left", (1,))
        self.assertEqual((desk.leak(), desk.is_kept()), (5, False))
        desk.undo()
        self.assertEqual(desk.leak(), 4)
        desk.undo()
        desk.say("left", (0, 1))
        self.assertEqual((desk.leak(), desk.is_kept()), (0, True))
        desk.say("left", (0,))
        self.assertEqual(desk.leak(), 3)

    def test_leak_for_lesser_things_not_in_the_lot(self):
        desk = Desk(((4,), (5,), (4,)))
        desk.say("left", (2,))
        self.assertEqual(desk.leak(), 1)
        desk = Desk(((4, 5, 4),))
        desk.say("right", (1, 2))
        self.assertEqual(desk.leak(), 1)

    def test_leaks_of_all_ways_together(self):
        # A triple told apart is so on the two ways of its things: each way has one half of it.
        talk = say("left", ((1, 0), end(0)), ((0, 1), say("right", ((1, 0), end(0)), ((0, 1), end(1)))))
        desk = Desk(EITHER)
        desk.say("left", (1,))
        self.assertEqual(desk.leak(), leak(EITHER, talk))

    def test_classes_said_by_turns_are_kept(self):
        for seed in range(60):
            table = told_table(1 + seed % 6, 1 + seed // 6 % 6, seed)
            self.assertIs(can_be_told(table), True)
            for x in range(len(table)):
                for y in range(len(table[0])):
                    self.say_classes(table, x, y)

    def say_classes(self, table, x, y):
        """Say the classes of two things by turns: it leads to their answer, and nothing is told apart."""
        desk, place = Desk(table), class_talk(table)
        while place[0] == "say":
            own, classes = {"left": (x, desk.classes()[0]), "right": (y, desk.classes()[1])}[place[1]]
            lot = next(lot for lot in classes if own in lot)
            desk.say(place[1], lot)
            place = place[2][classes.index(lot)][1]
        self.assertEqual(desk.answer(), table[x][y])
        self.assertIs(desk.is_kept(), True)

    def test_what_was_told_does_not_change(self):
        desk = Desk(BIDS)
        desk.say("left", (1,))
        said, part, text = desk.said(), desk.part(), desk.text()
        desk.say("right", (0,))
        self.assertEqual((said, part, text), ((("left", (1,)),), ((1,), (0, 1)), "rows 2\n0 3\n2 2\nleft 1\n"))

    def test_desks_are_apart(self):
        one, other = Desk(BIDS), Desk(BIDS)
        one.say("left", (1,))
        self.assertEqual(other.said(), ())
        self.check(other, BIDS, [])
        self.check(one, BIDS, [("left", (1,))])


class WrongValues(unittest.TestCase):
    def test_bad_table(self):
        for value in WRONG_TABLES:
            check_error(self, BadTable, Desk, value)

    def test_wrong_sayings_change_nothing(self):
        desk = Desk(BIDS)
        for sayings in ([], [("right", (0, 1))]):
            for who, lot in sayings:
                desk.say(who, lot)
            before = told_of(desk)
            for who in WRONG_WHO:
                for lot in ((0,), (), None):
                    check_error(self, BadWho, desk.say, who, lot)
            for who in ("left", "right"):
                for lot in WRONG_LOTS:
                    check_error(self, BadLot, desk.say, who, lot)
            self.assertEqual(told_of(desk), before)

    def test_lots_of_the_part_left(self):
        table = ((0, 1, 2, 3), (4, 5, 6, 7), (8, 9, 10, 11))
        desk = Desk(table)
        desk.say("left", (0, 2))
        desk.say("right", (1, 3))
        before = told_of(desk)
        for who, own in (("left", (0, 2)), ("right", (1, 3))):
            for lot in plain_lots(6):
                if not set(lot) <= set(own):
                    check_error(self, BadLot, desk.say, who, lot)
                    self.assertEqual(told_of(desk), before)
                else:
                    desk.say(who, lot)
                    desk.undo()

    def test_things_of_who(self):
        desk = Desk(((0, 1, 2),))
        check_error(self, BadLot, desk.say, "left", (1,))
        desk.say("right", (2,))
        desk = Desk(((0,), (1,), (2,)))
        check_error(self, BadLot, desk.say, "right", (1,))
        desk.say("left", (2,))

    def test_nothing_said(self):
        desk = Desk(BIDS)
        check_error(self, NothingSaid, desk.undo)
        self.assertEqual(told_of(desk), plain_told(BIDS, []))


class Texts(unittest.TestCase):
    def test_read_back(self):
        chance = random.Random(4)
        for table in random_tables(120, 12, 4):
            desk = Desk(table)
            for who, lot in some_sayings(chance, table, chance.randint(0, 6)):
                desk.say(who, lot)
            read = desk_of(desk.text())
            self.assertIs(type(read), Desk)
            self.assertEqual(told_of(read), told_of(desk))
            for _ in desk.said():
                read.undo()
                desk.undo()
                self.assertEqual(told_of(read), told_of(desk))

    def test_not_text(self):
        for value in NO_TEXTS:
            check_error(self, NotText, desk_of, value)

    def test_invalid_lines_of_the_table(self):
        for text, at in WRONG_TEXTS:
            if not text.startswith("rows 1\n7 7\nleft"):
                check_error(self, (InvalidLine, "at", at), desk_of, text)

    def test_invalid_lines(self):
        head = "rows 2\n0 3 1\n2 2 1\n"
        for lines, at in (
            ("left 0", 3), ("left 0\nright 1", 4), ("left", 3), ("left 0\nle", 4), (" ", 3), ("\n", 3),
            ("left 0\n\n", 4),
            ("left\n", 3), ("left \n", 3), ("left  0\n", 3), (" left 0\n", 3), ("left 0 \n", 3), ("left\t0\n", 3),
            ("left0\n", 3), ("Left 0\n", 3), ("0\n", 3), ("0 left\n", 3), ("middle 0\n", 3), ("left right 0\n", 3),
            ("left 00\n", 3), ("left 0 01\n", 3), ("left 1 0\n", 3), ("left 0 0\n", 3), ("left 2\n", 3),
            ("left 0 1 2\n", 3),
            ("right 3\n", 3), ("right 2\n", None), ("left -1\n", 3), ("left +1\n", 3), ("left x\n", 3),
            ("left 0,1\n", 3),
            ("left \u0660\n", 3), ("left \u00b2\n", 3), ("left " + "1" * 5000 + "\n", 3), ("left 10\n", 3),
            ("left 0\r\n", 3),
            ("left 0\x0b\n", 3), ("left 0\u2028\n", 3), ("left 0\u2028", 3),
            ("left 0\nleft 0\nleft 0\n", None), ("left 0 1\nleft 1\nleft 0\n", 5), ("left 0\nleft 1\n", 4),
            ("left 0\nleft 0 1\n", 4), ("right 0 2\nright 1\n", 4), ("right 0 2\nright 0 1 2\n", 4),
            ("right 0 2\nleft 1\n", None),
            ("right 0 2\nleft 1\n2 2 1\n", 5), ("rows 2\n", 3), ("0 3 1\n", 3), ("left 0\nx\nleft 5", 4),
            ("left 0\nleft 0 \nx", 4),
            ("left 0\nleft 7\n\n\n", 4), ("left 0\n\nleft 0\n", 4),
        ):
            with self.subTest(lines[:40]):
                if at is None:
                    self.assertEqual(desk_of(head + lines).text(), head + lines)
                else:
                    check_error(self, (InvalidLine, "at", at), desk_of, head + lines)

    def test_texts_that_end_too_early(self):
        chance = random.Random(5)
        for table in random_tables(30, 12, 5):
            sayings = some_sayings(chance, table, 3)
            text = plain_told(table, sayings)[-1]
            for length in range(len(text)):
                lines = text[:length].count("\n")
                if text[:length].endswith("\n") and lines > len(table):
                    self.assertEqual(desk_of(text[:length]).said(), tuple(sayings[:lines - len(table) - 1]))
                else:
                    check_error(self, (InvalidLine, "at", lines), desk_of, text[:length])

    def test_texts_of_a_table_alone(self):
        for table in random_tables(40, 12, 6):
            self.assertEqual(told_of(desk_of(write_table(table))), told_of(Desk(table)))

    def test_changed_texts(self):
        chance = random.Random(7)
        right = 0
        for table in random_tables(800, 12, 7):
            text = plain_told(table, some_sayings(chance, table, 3))[-1]
            at = chance.randrange(len(text))
            other = chance.choice(["", " ", "\n", "0", "1", "2", "x", "\n\n", "right"])
            text = text[:at] + other + text[at + chance.randint(0, 1):]
            error = error_of(desk_of, text)
            if error is None:
                self.assertEqual(desk_of(text).text(), text)
                right += 1
            else:
                self.assertIs(type(error), InvalidLine)
                self.check_first(text, error.at)
        self.assertGreater(right, 20)

    def check_first(self, text, at):
        """The lines ahead of this one can stand there: none of them is told for a text of these alone."""
        lines = text.split("\n")
        self.assertTrue(0 <= at < len(lines))
        ahead = "".join(line + "\n" for line in lines[:at])
        error = error_of(desk_of, ahead)
        self.assertTrue(error is None or error.at == at)
        # With a line end of its own it cannot stand there either, but where that alone was missing.
        if at < len(lines) - 1:
            self.assertEqual(error_of(desk_of, ahead + lines[at] + "\n").at, at)


if __name__ == "__main__":
    unittest.main()
