"""Tables, their parts, and the classes of rows and columns that hang together.

The functions of the interface check what they are given. answers_among,
rows_together, columns_together and is_knot do not: they are there for modules
that go through many parts of one table that they have checked.
"""

from nomoretold.errors import BadPart, BadTable
from nomoretold.kinds import is_lot, is_number

MOST_THINGS = 6
MOST_ANSWER = 99


def is_table(value):
    """Whether the value is a table."""
    if not isinstance(value, tuple) or not 1 <= len(value) <= MOST_THINGS:
        return False
    if not all([_is_row(row) for row in value]):
        return False
    return all([len(row) == len(value[0]) for row in value])


def _is_row(value):
    """Whether the value is a tuple of as many answers as a row may have."""
    if not isinstance(value, tuple) or not 1 <= len(value) <= MOST_THINGS:
        return False
    return all([is_number(answer, 0, MOST_ANSWER) for answer in value])


def require_table(table):
    """Raise BadTable unless the value is a table."""
    if not is_table(table):
        raise BadTable("a table is a tuple of 1 to 6 rows of as many answers, 1 to 6, from 0 to 99")


def require_part(table, part):
    """Raise BadTable unless the first value is a table, BadPart unless the other is a part of it."""
    require_table(table)
    if not _is_part(table, part):
        raise BadPart("a part is a pair of ascending tuples of rows and of columns of the table")


def _is_part(table, value):
    """Whether the value is a part of the table."""
    if not isinstance(value, tuple) or len(value) != 2:
        return False
    return is_lot(value[0], len(table)) and is_lot(value[1], len(table[0]))


def whole_part(table):
    """The part of the table that has all its rows and columns."""
    return (tuple(range(len(table))), tuple(range(len(table[0]))))


def answers_in(table):
    """The ascending tuple of the table's unlike answers."""
    require_table(table)
    return answers_among(table, whole_part(table))


def answers_among(table, part):
    """The ascending tuple of the part's unlike answers."""
    rows, columns = part
    return tuple(sorted({table[x][y] for x in rows for y in columns}))


def turned(table):
    """The table with its columns as rows, and its rows as columns."""
    require_table(table)
    return tuple([tuple([row[y] for row in table]) for y in range(len(table[0]))])


def part_table(table, part):
    """The table of the part's rows and columns alone."""
    require_part(table, part)
    rows, columns = part
    return tuple([tuple([table[x][y] for y in columns]) for x in rows])


def row_classes(table, part):
    """The tuple of the ascending tuples of the part's rows that hang together."""
    require_part(table, part)
    return rows_together(table, part)


def column_classes(table, part):
    """The tuple of the ascending tuples of the part's columns that hang together."""
    require_part(table, part)
    return columns_together(table, part)


def rows_together(table, part):
    """As row_classes, unchecked."""
    rows, columns = part
    return _classes({x: [table[x][y] for y in columns] for x in rows})


def columns_together(table, part):
    """As column_classes, unchecked."""
    rows, columns = part
    return _classes({y: [table[x][y] for x in rows] for y in columns})


def _classes(lines):
    """The classes of the lines that hang together; lines: the answers of each by its number."""
    classes = []
    for number in lines:
        if not any([number in lot for lot in classes]):
            classes.append(_together_with(number, lines))
    return tuple(classes)


def _together_with(number, lines):
    """The ascending tuple of the numbers of the lines that hang together with this one."""
    found = [number]
    waiting = [number]
    while waiting:
        line = lines[waiting.pop()]
        for other in lines:
            if other not in found and _is_near(line, lines[other]):
                found.append(other)
                waiting.append(other)
    return tuple(sorted(found))


def _is_near(line, other):
    """Whether the two lines have like answers at one place."""
    return any([one == another for one, another in zip(line, other)])


def is_knotted(table, part):
    """Whether the part has more than one answer, and all its rows hang together, and all its columns."""
    require_part(table, part)
    return is_knot(table, part)


def is_knot(table, part):
    """As is_knotted, unchecked."""
    if len(answers_among(table, part)) == 1:
        return False
    return len(rows_together(table, part)) == 1 and len(columns_together(table, part)) == 1
