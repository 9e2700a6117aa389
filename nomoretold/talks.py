"""Talks of a table, the ways through them, and the chances with which their ends come.

The functions of the interface check what they are given, by require_talk.
things_of, thing_behind and ends_of do not: they are there for modules that have
checked the talk.
"""

from nomoretold.errors import BadTalk, BadThing, NoWay
from nomoretold.kinds import is_number, ratio
from nomoretold.tables import MOST_ANSWER, require_table

MOST_IN_ALL = 400
MOST_PLACES = 40
MOST_BRANCHES = 6
MOST_WEIGHT = 999


def is_talk(table, value):
    """Whether the value is a talk of the table."""
    require_table(table)
    return _way_to_fault(table, value) is None


def require_talk(table, talk):
    """Raise BadTable unless the first value is a table, BadTalk unless the other is a talk of it."""
    require_table(table)
    way = _way_to_fault(table, talk)
    if way is not None:
        raise BadTalk(way)


def _way_to_fault(table, value):
    """The way to the first thing in the value that cannot stand there in a talk; None."""
    # No recursion, and no list of all things ahead: a value may hold one talk many times over.
    waiting = [((), value)]
    met = 0
    while waiting:
        way, thing = waiting.pop()
        met += 1
        if met > MOST_IN_ALL or not _can_stand(table, thing, len(way)):
            return way
        waiting.extend(_next_things(way, thing)[::-1])
    return None


def _can_stand(table, value, places_ahead):
    """Whether the value is an end, or a place that may stand behind so many places."""
    return _is_end(value) or (places_ahead < MOST_PLACES and _is_place(table, value))


def _is_end(value):
    """Whether the value is an end of a talk."""
    if not isinstance(value, tuple) or len(value) != 2:
        return False
    return value[0] == "answer" and is_number(value[1], 0, MOST_ANSWER)


def _is_place(table, value):
    """Whether the value is a place of a talk, whatever stands in its branches."""
    if not isinstance(value, tuple) or len(value) != 3 or value[0] != "say":
        return False
    if value[1] not in ("left", "right"):
        return False
    return _are_branches(value[2], _things_of_one(table, value[1]))


def _things_of_one(table, who):
    """How many things left, or right, may hold."""
    return len(table) if who == "left" else len(table[0])


def _are_branches(value, many):
    """Whether the value is a tuple of branches of one who may hold so many things."""
    if not isinstance(value, tuple) or not 1 <= len(value) <= MOST_BRANCHES:
        return False
    if not all([_is_branch(branch, many) for branch in value]):
        return False
    return all([any([branch[0][thing] > 0 for branch in value]) for thing in range(many)])


def _is_branch(value, many):
    """Whether the value is a pair of weights, one for each thing and one above 0, and anything."""
    if not isinstance(value, tuple) or len(value) != 2:
        return False
    weights = value[0]
    if not isinstance(weights, tuple) or len(weights) != many:
        return False
    if not all([is_number(weight, 0, MOST_WEIGHT) for weight in weights]):
        return False
    return any([weight > 0 for weight in weights])


def _next_things(way, thing):
    """The pairs of a way and a thing that come next behind this thing, in order."""
    if thing[0] == "answer":
        return []
    return [(way + (number,), branch[1]) for number, branch in enumerate(thing[2])]


def things_of(talk):
    """The pairs of a way and the thing behind it, a place ahead of what stands behind it."""
    found = []
    waiting = [((), talk)]
    while waiting:
        way, thing = waiting.pop()
        found.append((way, thing))
        waiting.extend(_next_things(way, thing)[::-1])
    return found


def size_of(table, talk):
    """The pair of the numbers of the talk's places and of its ends."""
    require_talk(table, talk)
    kinds = [thing[0] for _, thing in things_of(talk)]
    return (kinds.count("say"), kinds.count("answer"))


def ends_of(table, talk):
    """For each end in order: its way, its answer, and with which ratio each one talks that way.

    The ratios are two tuples: one for each thing of left, and one for each of right.
    For a pair of things the chance of the end is the product of their ratios.
    """
    sure = (((1, 1),) * len(table), ((1, 1),) * len(table[0]))
    found = []
    waiting = [((), talk, sure[0], sure[1])]
    while waiting:
        way, thing, lefts, rights = waiting.pop()
        if thing[0] == "answer":
            found.append((way, thing[1], lefts, rights))
        else:
            waiting.extend(_said_next(way, thing, lefts, rights)[::-1])
    return found


def _said_next(way, place, lefts, rights):
    """What comes next behind a place, in order, with the ratios with which each one talks that way."""
    found = []
    for number, branch in enumerate(place[2]):
        longer = way + (number,)
        if place[1] == "left":
            found.append((longer, branch[1], _with_word(lefts, place, number), rights))
        else:
            found.append((longer, branch[1], lefts, _with_word(rights, place, number)))
    return found


def _with_word(ratios, place, number):
    """The ratios, one for each thing of the speaker, by the chances of the place's word."""
    weights = place[2][number][0]
    longer = []
    for thing, (top, low) in enumerate(ratios):
        all_weights = sum([branch[0][thing] for branch in place[2]])
        longer.append(ratio(top * weights[thing], low * all_weights))
    return tuple(longer)


def chances(table, talk, x, y):
    """The chances of the ends that can come for the things x of left and y of right, by their ways."""
    require_talk(table, talk)
    if not is_number(x, 0, len(table) - 1) or not is_number(y, 0, len(table[0]) - 1):
        raise BadThing("a thing is the number of a row for left, of a column for right")
    found = {}
    for way, _, lefts, rights in ends_of(table, talk):
        chance = ratio(lefts[x][0] * rights[y][0], lefts[x][1] * rights[y][1])
        if chance[0] > 0:
            found[way] = chance
    return found


def thing_behind(talk, way):
    """The end or place that stands behind the way; None if the value is no way of the talk."""
    if not isinstance(way, tuple):
        return None
    thing = talk
    for number in way:
        if thing[0] == "answer" or not is_number(number, 0, len(thing[2]) - 1):
            return None
        thing = thing[2][number][1]
    return thing


def _require_way(table, talk, way):
    """Raise BadTable, BadTalk, or NoWay unless the last value is a way of the talk."""
    require_talk(table, talk)
    if thing_behind(talk, way) is None:
        raise NoWay("a way is the tuple of the numbers of the branches gone")


def heard(table, talk, way):
    """The answer that stands behind the way, or who speaks there."""
    _require_way(table, talk, way)
    return thing_behind(talk, way)[1]


def comes_for(table, talk, way):
    """The things of left, and those of right, that can say their words of the way."""
    _require_way(table, talk, way)
    can = {"left": tuple(range(len(table))), "right": tuple(range(len(table[0])))}
    place = talk
    for number in way:
        weights, behind = place[2][number]
        can[place[1]] = tuple([thing for thing in can[place[1]] if weights[thing] > 0])
        place = behind
    return (can["left"], can["right"])
