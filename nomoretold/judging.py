"""Whether a talk is right and tells no more, decided by counting."""

from itertools import combinations

from nomoretold.kinds import is_number
from nomoretold.tables import turned
from nomoretold.talks import ends_of, require_talk


def is_right(table, talk):
    """Whether each end that can come for some things tells the table's answer for these."""
    require_talk(table, talk)
    return _first_wrong(table, ends_of(table, talk)) is None


def tells_no_more(table, talk):
    """Whether neither learns anything of the other's thing beyond what the answer tells."""
    require_talk(table, talk)
    ends = ends_of(table, talk)
    return _first_told(table, ends) is None and _first_told(turned(table), _turned_ends(ends)) is None


def judged(table, talk):
    """None if the talk is right and tells no more; otherwise its first fault."""
    require_talk(table, talk)
    ends = ends_of(table, talk)
    wrong = _first_wrong(table, ends)
    if wrong is not None:
        return ("wrong", *wrong)
    told = _first_told(table, ends)
    if told is not None:
        return ("told", "right", *told)
    told = _first_told(turned(table), _turned_ends(ends))
    if told is not None:
        return ("told", "left", *told)
    return None


def _turned_ends(ends):
    """The ends as they are for the turned table: left and right change places."""
    return [(way, answer, rights, lefts) for way, answer, lefts, rights in ends]


def _first_wrong(table, ends):
    """The first x, y and way of an end that can come there and tells another answer; None."""
    for x in range(len(table)):
        for y in range(len(table[0])):
            for end in ends:
                if _is_wrong(table, end, x, y):
                    return (x, y, end[0])
    return None


def _is_wrong(table, end, x, y):
    """Whether the end can come for these things, and tells another answer than the table."""
    _, answer, lefts, rights = end
    return lefts[x][0] > 0 and rights[y][0] > 0 and answer != table[x][y]


def _first_told(table, ends):
    """The first y, x, a greater x and way by which right, holding y, is told of x; None."""
    for y in range(len(table[0])):
        for x, other in combinations(range(len(table)), 2):
            for end in ends:
                if _is_told(table, end, y, x, other):
                    return (y, x, other, end[0])
    return None


def _is_told(table, end, y, x, other):
    """Whether the end has unlike chances at x and the other one, though the answers at y are alike."""
    _, _, lefts, rights = end
    # Right's own words have the same chances at both: only where they have none nothing is told.
    return table[x][y] == table[other][y] and rights[y][0] > 0 and lefts[x] != lefts[other]


def shows_fault(table, talk, value):
    """Whether the value is a fault of the talk."""
    require_talk(table, talk)
    ends = ends_of(table, talk)
    if not isinstance(value, tuple):
        return False
    if len(value) == 4 and value[0] == "wrong":
        return _shows_wrong(table, ends, value[1:])
    if len(value) == 6 and value[0] == "told" and value[1] == "right":
        return _shows_told(table, ends, value[2:])
    if len(value) == 6 and value[0] == "told" and value[1] == "left":
        return _shows_told(turned(table), _turned_ends(ends), value[2:])
    return False


def _shows_wrong(table, ends, value):
    """Whether the value is an x, y and way as _first_wrong looks for them."""
    x, y, way = value
    if not is_number(x, 0, len(table) - 1) or not is_number(y, 0, len(table[0]) - 1):
        return False
    end = _end_of_way(ends, way)
    return end is not None and _is_wrong(table, end, x, y)


def _shows_told(table, ends, value):
    """Whether the value is a y, x, greater x and way as _first_told looks for them."""
    y, x, other, way = value
    if not is_number(y, 0, len(table[0]) - 1) or not is_number(other, 0, len(table) - 1):
        return False
    end = _end_of_way(ends, way)
    return end is not None and is_number(x, 0, other - 1) and _is_told(table, end, y, x, other)


def _end_of_way(ends, way):
    """The end to which the way leads; None if the value is no way of an end."""
    # True equals 1, but is no number of a branch.
    if not isinstance(way, tuple) or any([isinstance(number, bool) for number in way]):
        return None
    for end in ends:
        if end[0] == way:
            return end
    return None
