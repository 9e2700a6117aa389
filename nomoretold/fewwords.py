"""The talks with the fewest words, and with the least mean number of words.

plans_of and planned_talk are there for other modules, too: they look for the talk
of two branches at each place in which something is least.
"""

from nomoretold.classtalks import end_of, place_of
from nomoretold.errors import BadOdds
from nomoretold.kinds import is_number, ratio
from nomoretold.knots import can_be_told, require_told
from nomoretold.tables import answers_among, columns_together, require_table, rows_together, whole_part
from nomoretold.talks import ends_of, require_talk

MOST_ODDS = 99


def fewest_words(table):
    """The least number of places on the ways of a talk of two branches each; None if none is right."""
    if not can_be_told(table):
        return None
    return _plans_by_words(table)[whole_part(table)][0]


def word_talk(table):
    """A talk with the fewest words."""
    require_told(table)
    return planned_talk(table, _plans_by_words(table))


def _plans_by_words(table):
    """The plans with the fewest words."""
    return plans_of(table, _lots_by_classes, lambda part, parts, costs: 1 + max(costs))


def _lots_by_classes(table, part):
    """What left, and what right, may tell in this part: things that hang together stay together."""
    # Coins are no help: a word comes with like chances for all things of a class.
    return (rows_together(table, part), columns_together(table, part))


def plans_of(table, lots_of, cost):
    """For each part met: the least cost, and the two parts to which it is parted first.

    lots_of(table, part) tells lots of rows, and of columns, that are not parted.
    cost(part, parts, costs) tells the cost of a part by the costs of the two below it;
    parts of one answer cost nothing, and are not parted.
    """
    plans = {}
    _plan_from(table, whole_part(table), lots_of, cost, plans)
    return plans


def _plan_from(table, part, lots_of, cost, plans):
    """The least cost of the part, which is put among the plans, and so is all below it."""
    if part in plans:
        return plans[part][0]
    best = (0, ())
    if len(answers_among(table, part)) > 1:
        found = []
        for parts in _pairs_below(part, lots_of(table, part)):
            costs = [_plan_from(table, below, lots_of, cost, plans) for below in parts]
            found.append((cost(part, parts, costs), parts))
        best = min(found)
    plans[part] = best
    return best[0]


def _pairs_below(part, lots):
    """All pairs of parts to which the part can be parted without parting a lot."""
    rows, columns = part
    row_lots, column_lots = lots
    pairs = [((one, columns), (other, columns)) for one, other in _halves(row_lots)]
    return pairs + [((rows, one), (rows, other)) for one, other in _halves(column_lots)]


def _halves(lots):
    """All pairs of ascending tuples to which the lots can be put together, the first lot in the first."""
    first, *rest = lots
    halves = []
    for bits in range(1, 1 << len(rest)):
        one = [lot for number, lot in enumerate(rest) if not (bits >> number) & 1]
        other = [lot for number, lot in enumerate(rest) if (bits >> number) & 1]
        halves.append((_joined([first] + one), _joined(other)))
    return halves


def _joined(lots):
    """The ascending tuple of all that stands in the lots."""
    return tuple(sorted([thing for lot in lots for thing in lot]))


def planned_talk(table, plans):
    """The talk of the plans."""
    return _planned_from(table, whole_part(table), plans)


def _planned_from(table, part, plans):
    """The talk of the plans from this part on."""
    _, parts = plans[part]
    if not parts:
        return end_of(table, part)
    return place_of(table, parts, [_planned_from(table, below, plans) for below in parts])


def _require_odds(table, odds):
    """Raise BadOdds unless the value is a pair of odds for left and for right."""
    if not isinstance(odds, tuple) or len(odds) != 2:
        raise BadOdds("odds are a pair of tuples")
    if not _are_odds(odds[0], len(table)) or not _are_odds(odds[1], len(table[0])):
        raise BadOdds("odds are integers from 0 to 99, one for each thing, and one above 0")


def _are_odds(value, many):
    """Whether the value is a tuple of odds for one who may hold so many things."""
    if not isinstance(value, tuple) or len(value) != many:
        return False
    return all([is_number(odd, 0, MOST_ODDS) for odd in value]) and any([odd > 0 for odd in value])


def mean_words(table, talk, odds):
    """The mean number of places gone, a ratio."""
    require_talk(table, talk)
    _require_odds(table, odds)
    mean = (0, 1)
    for way, _, lefts, rights in ends_of(table, talk):
        left_top, left_low = _by_odds(lefts, odds[0])
        right_top, right_low = _by_odds(rights, odds[1])
        mean = _plus(mean, (len(way) * left_top * right_top, left_low * right_low))
    return mean


def _by_odds(ratios, odds):
    """The mean of the ratios, one for each thing, by the odds of the things."""
    mean = (0, 1)
    for (top, low), odd in zip(ratios, odds):
        mean = _plus(mean, (top * odd, low * sum(odds)))
    return mean


def _plus(one, other):
    """The sum of two ratios."""
    return ratio(one[0] * other[1] + other[0] * one[1], one[1] * other[1])


def least_mean(table, odds):
    """The least mean number of places gone, a ratio; None if no talk is right and tells no more."""
    require_table(table)
    _require_odds(table, odds)
    if not can_be_told(table):
        return None
    whole = whole_part(table)
    plans = plans_of(table, _lots_by_classes, lambda part, parts, costs: _weight(part, odds) + sum(costs))
    return ratio(plans[whole][0], _weight(whole, odds))


def _weight(part, odds):
    """The odds of the pairs of things in the part, together."""
    rows, columns = part
    return sum([odds[0][x] for x in rows]) * sum([odds[1][y] for y in columns])
