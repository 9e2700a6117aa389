"""Tables as texts, line by line.

The functions of the interface check what they are given. table_of_lines and its like
are there for modules that read texts which begin with a table.
"""

from nomoretold.errors import InvalidLine, NotText
from nomoretold.kinds import number_told
from nomoretold.tables import MOST_ANSWER, MOST_THINGS, require_table


def write_table(table):
    """The text of the table."""
    require_table(table)
    lines = [f"rows {len(table)}"] + [numbers_line(row) for row in table]
    return "".join([line + "\n" for line in lines])


def numbers_line(numbers):
    """The numbers, parted by one blank."""
    return " ".join([str(number) for number in numbers])


def read_table(text):
    """The table of a text, which has nothing else in it."""
    lines = lines_of(text)
    table = table_of_lines(lines)
    require_end(lines, len(table) + 1)
    return table


def lines_of(text):
    """The lines of a text without their line ends, and at last what stands behind the last line end."""
    if not isinstance(text, str):
        raise NotText("lines are read from a text")
    return text.split("\n")


def require_end(lines, at):
    """Raise InvalidLine unless the text ends ahead of the line with this index."""
    if lines[at:] != [""]:
        raise InvalidLine(at)


def table_of_lines(lines):
    """The table that is told by the first lines."""
    words = _words_of_line(lines, 0)
    many = number_told(words[1], 1, MOST_THINGS) if len(words) == 2 and words[0] == "rows" else None
    if many is None:
        raise InvalidLine(0)
    rows = []
    for at in range(1, many + 1):
        row = numbers_told(_words_of_line(lines, at), MOST_ANSWER)
        if row is None or len(row) > MOST_THINGS or (rows and len(row) != len(rows[0])):
            raise InvalidLine(at)
        rows.append(row)
    return tuple(rows)


def _words_of_line(lines, at):
    """What stands between the blanks of the line with this index; InvalidLine if it has no line end."""
    if at >= len(lines) - 1:
        raise InvalidLine(at)
    return lines[at].split(" ")


def numbers_told(words, most):
    """The tuple of the numbers up to most that the words tell; None."""
    numbers = [number_told(word, 0, most) for word in words]
    return None if None in numbers else tuple(numbers)
