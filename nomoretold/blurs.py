"""Blurs: answers put together to lots, so that the blurred table can be told."""

from nomoretold.errors import BadLots, TooMany
from nomoretold.kinds import is_lot
from nomoretold.knots import stuck
from nomoretold.tables import MOST_ANSWER, answers_among, answers_in, require_table

MOST_ANSWERS_SEARCHED = 8


def blurred(table, lots):
    """The table in which each answer is put by the least one of its lot."""
    require_table(table)
    if not _are_lots(table, lots):
        raise BadLots("lots are an ascending tuple of ascending tuples of the table's answers, each once")
    return _blurred_by(table, lots)


def _are_lots(table, value):
    """Whether the value is lots of the table."""
    if not isinstance(value, tuple) or not all([is_lot(lot, MOST_ANSWER + 1) for lot in value]):
        return False
    firsts_ascend = all([one[0] < other[0] for one, other in zip(value, value[1:])])
    return firsts_ascend and sorted([answer for lot in value for answer in lot]) == list(answers_in(table))


def _blurred_by(table, lots):
    """As blurred, unchecked."""
    put = {answer: lot[0] for lot in lots for answer in lot}
    return tuple([tuple([put[answer] for answer in row]) for row in table])


def finest_blur(table):
    """Of the lots by which the blurred table can be told the most, and of these the first."""
    answers = answers_in(table)
    if len(answers) > MOST_ANSWERS_SEARCHED:
        raise TooMany(MOST_ANSWERS_SEARCHED)
    lots = tuple([(answer,) for answer in answers])
    knot = stuck(table)
    # What hangs together does so in each blur: all lots by which the table can be told have the
    # answers of a knotted part in one tuple. So there is one finest blur, and this leads to it.
    while knot is not None:
        lots = _put_together(lots, answers_among(_blurred_by(table, lots), knot))
        knot = stuck(_blurred_by(table, lots))
    return lots


def _put_together(lots, firsts):
    """The lots, but those with these least answers put together to one."""
    together = tuple(sorted([answer for lot in lots if lot[0] in firsts for answer in lot]))
    return tuple(sorted([lot for lot in lots if lot[0] not in firsts] + [together]))
