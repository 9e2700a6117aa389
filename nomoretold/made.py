"""Tables made of tables, and how many small tables can be told."""

from nomoretold.errors import BadNumber, TooGreat, Unlike
from nomoretold.kinds import is_number, multiplied
from nomoretold.knots import can_be_told
from nomoretold.tables import MOST_THINGS, require_table

MOST_COUNTED = 3


def side_by_side(one, other):
    """The table of other's columns behind one's."""
    require_table(one)
    require_table(other)
    if len(one) != len(other):
        raise Unlike("tables side by side have as many rows")
    _require_size(len(one), len(one[0]) + len(other[0]))
    return tuple([row + beside for row, beside in zip(one, other)])


def both(one, other):
    """The table of the pairs of their answers at each place, numbered."""
    require_table(one)
    require_table(other)
    if len(one) != len(other) or len(one[0]) != len(other[0]):
        raise Unlike("both tables have as many rows and as many columns")
    return _numbered([list(zip(row, beside)) for row, beside in zip(one, other)])


def product(one, other):
    """The table whose things are pairs of things, its answers the pairs of their answers, numbered."""
    require_table(one)
    require_table(other)
    _require_size(len(one) * len(other), len(one[0]) * len(other[0]))
    return _numbered([[(a, b) for a in row for b in beside] for row in one for beside in other])


def _require_size(rows, columns):
    """Raise TooGreat if so many rows or columns are too many for a table."""
    if rows > MOST_THINGS or columns > MOST_THINGS:
        raise TooGreat(MOST_THINGS)


def _numbered(rows):
    """The table of the numbers of the pairs in these rows, among all of them, ascending."""
    pairs = sorted({pair for row in rows for pair in row})
    numbers = {pair: number for number, pair in enumerate(pairs)}
    return tuple([tuple([numbers[pair] for pair in row]) for row in rows])


def count_told(rows, columns, many):
    """How many tables of so many rows and columns with answers below many can be told."""
    for number in (rows, columns, many):
        if not is_number(number, 1, MOST_COUNTED):
            raise BadNumber("rows, columns and answers are each from 1 to 3")
    found = 0
    for answers in _patterns(rows * columns, many):
        table = tuple([answers[x * columns:(x + 1) * columns] for x in range(rows)])
        if can_be_told(table):
            found += _namings(max(answers) + 1, many)
    return found


def _patterns(places, many):
    """The rows of answers below many, in which a new answer is always the least one not met ahead."""
    # Whether a table can be told depends on which answers are alike, not on what they are.
    rows = [()]
    for _ in range(places):
        rows = [row + (answer,) for row in rows for answer in range(min(many, max(row, default=-1) + 2))]
    return rows


def _namings(used, many):
    """In how many ways the unlike answers used can be put by unlike ones below many."""
    return multiplied([many - ahead for ahead in range(used)])
