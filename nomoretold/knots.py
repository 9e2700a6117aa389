"""Knotted parts of tables, and going down by classes."""

from nomoretold.errors import Knotted
from nomoretold.tables import answers_among, columns_together, is_knot, require_table
from nomoretold.tables import rows_together, whole_part


def can_be_told(table):
    """Whether no part of the table is knotted."""
    # The rows of a knotted part hang together in every part around it, and its
    # columns, too: so going down never parts it, and ends at a stuck part.
    return stuck(table) is None


def require_told(table):
    """Raise BadTable unless the value is a table, Knotted if it cannot be told."""
    knot = least_knot(table)
    if knot is not None:
        raise Knotted(knot)


def least_knot(table):
    """The first knotted part, by its size, then by its rows, then by its columns; None."""
    # A table of six by six has 3969 parts: only one with a knot is searched.
    parts = [] if can_be_told(table) else _parts_by_size(table)
    for part in parts:
        if is_knot(table, part):
            return part
    return None


def _parts_by_size(table):
    """All parts, by the number of rows and columns together, then by rows, then by columns."""
    row_lots = _lots(len(table))
    column_lots = _lots(len(table[0]))
    parts = [(len(rows) + len(columns), rows, columns) for rows in row_lots for columns in column_lots]
    return [part[1:] for part in sorted(parts)]


def _lots(many):
    """The ascending tuples of one or more of the numbers below many."""
    return [tuple([k for k in range(many) if (bits >> k) & 1]) for bits in range(1, 1 << many)]


def stuck(table):
    """The first stuck part that is met going down by classes from the whole table; None."""
    require_table(table)
    return _stuck_from(table, whole_part(table))


def _stuck_from(table, part):
    """The first stuck part that is met going down by classes from the part; None."""
    # A part is stuck just where it is knotted: several answers, one class of each kind.
    if is_knot(table, part):
        return part
    for below in parts_below(table, part):
        found = _stuck_from(table, below)
        if found is not None:
            return found
    return None


def parts_below(table, part):
    """The parts that come next going down by classes; none below a part that ends or is stuck."""
    rows, columns = part
    if len(answers_among(table, part)) == 1:
        return []
    row_lots = rows_together(table, part)
    if len(row_lots) > 1:
        return [(lot, columns) for lot in row_lots]
    column_lots = columns_together(table, part)
    if len(column_lots) > 1:
        return [(rows, lot) for lot in column_lots]
    return []
