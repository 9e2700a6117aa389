"""Desks: left and right say, one after another, in which lots their things are."""

from nomoretold.errors import BadLot, BadWho, InvalidLine, NothingSaid
from nomoretold.kinds import is_lot
from nomoretold.tables import MOST_THINGS, answers_among, columns_together, require_table
from nomoretold.tables import rows_together, whole_part
from nomoretold.tabletexts import lines_of, numbers_line, numbers_told, require_end, table_of_lines, write_table

SPEAKERS = ("left", "right")


class Desk:
    """A table, and what left and right said of their things."""

    def __init__(self, table):
        require_table(table)
        self.table = table
        # The part left at first, and behind each saying.
        self.parts = [whole_part(table)]
        self.sayings = []

    def say(self, who, lot):
        """Left or right says that the own thing is one of the lot."""
        if who not in SPEAKERS:
            raise BadWho("left or right says something")
        rows, columns = self.part()
        own = rows if who == "left" else columns
        if not is_lot(lot, MOST_THINGS) or not all([thing in own for thing in lot]):
            raise BadLot("a lot is an ascending tuple of one or more things of who in the part left")
        self.parts.append((lot, columns) if who == "left" else (rows, lot))
        self.sayings.append((who, lot))

    def part(self):
        """The part left."""
        return self.parts[-1]

    def answer(self):
        """The answer, if the part left has one alone; None."""
        answers = answers_among(self.table, self.part())
        return answers[0] if len(answers) == 1 else None

    def classes(self):
        """The pair of the row classes and the column classes of the part left."""
        return (rows_together(self.table, self.part()), columns_together(self.table, self.part()))

    def leak(self):
        """The number of triples of things with like answers that were told apart."""
        return sum([
            _told_apart(self.table, part, who, lot)
            for part, (who, lot) in zip(self.parts, self.sayings)
        ])

    def is_kept(self):
        """Whether nothing with like answers was told apart."""
        return self.leak() == 0

    def said(self):
        """The pairs of who and lot that are not taken back."""
        return tuple(self.sayings)

    def undo(self):
        """Take back what was said last."""
        if not self.sayings:
            raise NothingSaid("there is nothing to be taken back")
        self.sayings.pop()
        self.parts.pop()

    def text(self):
        """The table's text, and a line for each saying."""
        lines = [f"{who} {numbers_line(lot)}\n" for who, lot in self.sayings]
        return write_table(self.table) + "".join(lines)


def _told_apart(table, part, who, lot):
    """The number of triples of the part that were told apart when who said the lot."""
    rows, columns = part
    if who == "left":
        pairs = [(table[x][y], table[other][y]) for x in lot for other in rows if other not in lot for y in columns]
    else:
        pairs = [(table[x][y], table[x][other]) for y in lot for other in columns if other not in lot for x in rows]
    return len([1 for one, another in pairs if one == another])


def desk_of(text):
    """The desk of a text that a desk has written."""
    lines = lines_of(text)
    table = table_of_lines(lines)
    desk = Desk(table)
    first = len(table) + 1
    for at in range(first, len(lines) - 1):
        _say_line(desk, at, lines[at])
    require_end(lines, len(lines) - 1)
    return desk


def _say_line(desk, at, line):
    """Say what the line with this index tells; InvalidLine if it cannot be said."""
    who, *words = line.split(" ")
    lot = numbers_told(words, MOST_THINGS - 1)
    try:
        desk.say(who, lot)
    except (BadWho, BadLot):
        raise InvalidLine(at)
