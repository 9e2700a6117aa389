"""What plain right talks tell more than the answers, counted; and the talks that tell the least."""

from itertools import combinations

from nomoretold.errors import NotPlain, NotRight, TooGreat
from nomoretold.fewwords import planned_talk, plans_of
from nomoretold.judging import is_right
from nomoretold.tables import require_table, whole_part
from nomoretold.talks import ends_of, require_talk, things_of

MOST_THINGS_SEARCHED = 5


def leak(table, talk):
    """The number of triples of things with like answers that the talk tells apart."""
    require_talk(table, talk)
    if not _is_plain(talk):
        raise NotPlain("in a plain talk each thing has one word at each place")
    if not is_right(table, talk):
        raise NotRight("in a right talk each end that can come tells the table's answer")
    ways = _ways_by_things(table, talk)
    return len([1 for one, other in _like_pairs(table) if ways[one] != ways[other]])


def _is_plain(talk):
    """Whether at each place each thing of the speaker has a weight above 0 in one branch alone."""
    places = [thing for _, thing in things_of(talk) if thing[0] == "say"]
    return all([_is_plain_place(place) for place in places])


def _is_plain_place(place):
    """Whether each thing of the speaker has a weight above 0 in one branch of the place alone."""
    rows = [weights for weights, _ in place[2]]
    return all([len([1 for weights in rows if weights[thing] > 0]) == 1 for thing in range(len(rows[0]))])


def _ways_by_things(table, talk):
    """The way of the end that comes, for each pair of things; the talk is plain."""
    ways = {}
    for way, _, lefts, rights in ends_of(table, talk):
        for x in range(len(table)):
            for y in range(len(table[0])):
                if lefts[x][0] > 0 and rights[y][0] > 0:
                    ways[(x, y)] = way
    return ways


def _like_pairs(table):
    """The pairs of pairs of things, alike in one thing, with like answers."""
    all_things = [(x, y) for x in range(len(table)) for y in range(len(table[0]))]
    return [(one, other) for one, other in combinations(all_things, 2) if _are_like(table, one, other)]


def _are_like(table, one, other):
    """Whether two pairs of things are alike in one thing, and have like answers."""
    if one[0] != other[0] and one[1] != other[1]:
        return False
    return table[one[0]][one[1]] == table[other[0]][other[1]]


def least_leak(table):
    """The least leak of all plain right talks."""
    return _plans_by_leak(table)[whole_part(table)][0]


def leak_talk(table):
    """A plain right talk with the least leak."""
    return planned_talk(table, _plans_by_leak(table))


def _plans_by_leak(table):
    """The plans with the least leak."""
    require_table(table)
    if len(table) > MOST_THINGS_SEARCHED or len(table[0]) > MOST_THINGS_SEARCHED:
        raise TooGreat(MOST_THINGS_SEARCHED)
    # A word of more than two branches tells no more than several words of two branches each,
    # and within a part of one answer nothing is told.
    return plans_of(table, _lots_by_things, lambda part, parts, costs: _told_apart(table, parts) + sum(costs))


def _lots_by_things(_, part):
    """What left, and what right, may tell in this part: any thing may be parted from any other."""
    rows, columns = part
    return ([(x,) for x in rows], [(y,) for y in columns])


def _told_apart(table, parts):
    """The number of triples that are told apart by telling in which of two parts the things are."""
    ones, others = [[(x, y) for x in rows for y in columns] for rows, columns in parts]
    return len([1 for one in ones for other in others if _are_like(table, one, other)])
