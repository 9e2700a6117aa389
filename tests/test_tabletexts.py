import random
import re
import unittest

from nomoretold.errors import BadTable, InvalidLine, NotText, TellError
from nomoretold.tabletexts import read_table, write_table
from support import WRONG_INTEGERS, WRONG_TABLES, WRONG_VALUES, check_error, error_of, random_tables

NO_TEXTS = [value for value in WRONG_VALUES + WRONG_INTEGERS if not isinstance(value, str)] + [
    b"rows 1\n0\n", ["rows 1", "0"], ("rows 1\n0\n",),
]
NUMBER = re.compile("0|[1-9][0-9]?")

# Texts that are none of a table, with the index of the first line that cannot stand there.
WRONG_TEXTS = [
    ("", 0), ("\n", 0), (" ", 0), ("rows 1", 0), ("rows 2\n", 1), ("rows 2\n0 3\n", 2), ("rows 2\n0 3", 1),
    ("rows 2\n0 3\n2 2", 2), ("rows 1\n7 7", 1), ("rows 1\n7 7\n\n", 2), ("rows 1\n7 7\n ", 2), ("rows 1\n7 7\n7", 2),
    ("rows 1\n7 7\n7 7\n", 2), ("rows 1\n7 7\nleft 0\n", 2), ("rows 1\n7 7\n\n\n\n", 2), ("\nrows 1\n7\n", 0),
    ("rows 1\n\n7\n", 1), ("rows 2\n7\n\n7\n", 2), ("rows 0\n", 0), ("rows 0\n0\n", 0), ("rows 7\n" + "0\n" * 7, 0),
    ("rows 01\n0\n", 0), ("rows +1\n0\n", 0), ("rows -1\n0\n", 0), ("rows 1 \n0\n", 0), (" rows 1\n0\n", 0),
    ("rows  1\n0\n", 0), ("rows\t1\n0\n", 0), ("rows1\n0\n", 0), ("rows\n0\n", 0), ("rows \n0\n", 0),
    ("Rows 1\n0\n", 0),
    ("row 1\n0\n", 0), ("rows 1 1\n0\n", 0), ("1 rows\n0\n", 0), ("rows 1.\n0\n", 0), ("rows one\n0\n", 0),
    ("1\n0\n", 0),
    ("rows \u0661\n0\n", 0), ("rows \uff11\n0\n", 0), ("rows " + "1" * 5000 + "\n0\n", 0), ("rows 10\n0\n", 0),
    ("rows 1\n \n", 1), ("rows 1\n 0\n", 1), ("rows 1\n0 \n", 1), ("rows 1\n0  0\n", 1), ("rows 1\n0\t0\n", 1),
    ("rows 1\n00\n", 1), ("rows 1\n0 01\n", 1), ("rows 1\n-1\n", 1), ("rows 1\n+1\n", 1), ("rows 1\n100\n", 1),
    ("rows 1\n1_0\n", 1), ("rows 1\n1.0\n", 1), ("rows 1\n0,0\n", 1), ("rows 1\na\n", 1), ("rows 1\n\u00b2\n", 1),
    ("rows 1\n\u0660\n", 1), ("rows 1\n" + "9" * 5000 + "\n", 1), ("rows 1\n0 0 0 0 0 0 0\n", 1),
    ("rows 2\n0 0\n0\n", 2), ("rows 2\n0\n0 0\n", 2), ("rows 3\n0 0\n0 0\n0 0 0\n", 3), ("rows 3\n0 0\n0\n0 0 0\n", 2),
    ("rows 1\r\n0\r\n", 0), ("rows 1\n0\r\n", 1), ("rows 1\r0\r", 0), ("rows 1\n0\x0b", 1), ("rows 1\n0\x0b\n", 1),
    ("rows 1\n0\x0c\n", 1), ("rows 1\n0\x1c\n", 1), ("rows 1\x850\x85", 0), ("rows 1\u20280\n", 0),
    ("rows 1\n0\u2028\n", 1),
    ("rows 2\n0\u20280\n0 0\n", 1), ("rows 1\n\ud800\n", 1), ("rows 2\n0 x\n0 0 0\n", 1),
    # A line that cannot stand there comes ahead of a text that ends too early.
    ("rows 3\nx\n", 1), ("rows 3\n0\n0 0\n", 2), ("rows 3\n0\n0\n0", 3), ("rows 3\n0\nx", 2),
]


class Examples(unittest.TestCase):
    def test_the_example(self):
        self.assertEqual(
            [write_table(((0, 3), (2, 2))), read_table("rows 1\n7 7\n")], ["rows 2\n0 3\n2 2\n", ((7, 7),)],
        )


def plain_text(table):
    text = f"rows {len(table)}\n"
    for row in table:
        text += str(row[0])
        for answer in row[1:]:
            text += " " + str(answer)
        text += "\n"
    return text


class WriteAndRead(unittest.TestCase):
    def test_read_back(self):
        for table in random_tables(300, 30, 1):
            text = write_table(table)
            self.assertEqual(text, plain_text(table))
            self.assertEqual(read_table(text), table)

    def test_all_answers(self):
        for answer in range(100):
            self.assertEqual(write_table(((answer,),)), f"rows 1\n{answer}\n")
            self.assertEqual(read_table(f"rows 1\n{answer} 0\n"), ((answer, 0),))

    def test_all_sizes(self):
        for rows in range(1, 8):
            for columns in range(1, 8):
                text = f"rows {rows}\n" + (" ".join(["5"] * columns) + "\n") * rows
                if rows > 6:
                    check_error(self, (InvalidLine, "at", 0), read_table, text)
                elif columns > 6:
                    check_error(self, (InvalidLine, "at", 1), read_table, text)
                else:
                    self.assertEqual(read_table(text), ((5,) * columns,) * rows)
                    self.assertEqual(write_table(((5,) * columns,) * rows), text)

    def test_bad_table(self):
        for value in WRONG_TABLES:
            check_error(self, BadTable, write_table, value)


class WrongTexts(unittest.TestCase):
    def test_no_text(self):
        for value in NO_TEXTS:
            check_error(self, NotText, read_table, value)

    def test_invalid_line(self):
        for text, at in WRONG_TEXTS:
            with self.subTest(text[:40]):
                check_error(self, (InvalidLine, "at", at), read_table, text)

    def test_texts_that_end_too_early(self):
        for table in random_tables(40, 12, 2):
            text = write_table(table)
            for length in range(len(text)):
                # The line in which the text ends has no line end, or there is no such line.
                told = (InvalidLine, "at", text[:length].count("\n"))
                check_error(self, told, read_table, text[:length])

    def test_changed_texts(self):
        chance = random.Random(3)
        kinds = {}
        for table in random_tables(1500, 12, 3):
            text = write_table(table)
            at = chance.randrange(len(text))
            other = chance.choice(["", " ", "\n", "0", "7", "1", "x", "\n\n", "rows"])
            text = text[:at] + other + text[at + chance.randint(0, 1):]
            told = plain_fault(text)
            if told is None:
                self.assertEqual(write_table(read_table(text)), text)
            else:
                check_error(self, (InvalidLine, "at", told), read_table, text)
            kinds[told] = kinds.get(told, 0) + 1
        self.assertGreater(len(kinds), 6)
        self.assertGreater(kinds[None], 30)

    def test_every_text_raises_an_error_of_the_package(self):
        chance = random.Random(4)
        for _ in range(1000):
            text = "".join(chance.choice("rows 1 2\n\n0 9 ") for _ in range(chance.randint(0, 20)))
            error = error_of(read_table, text)
            self.assertTrue(error is None or isinstance(error, TellError))


def plain_fault(text):
    """The index of the first line that cannot stand there; None."""
    lines = text.split("\n")
    whole, rest = lines[:-1], lines[-1]
    head = re.fullmatch("rows ([1-6])", whole[0]) if whole else None
    if not head:
        return 0
    rows = whole[1:int(head[1]) + 1]
    for at, row in enumerate(rows, 1):
        words = row.split(" ")
        if not all(map(NUMBER.fullmatch, words)) or len(words) > 6 or len(words) != len(rows[0].split(" ")):
            return at
    if len(whole) != int(head[1]) + 1:
        return min(len(whole), int(head[1]) + 1)
    return len(whole) if rest else None


if __name__ == "__main__":
    unittest.main()
