"""The talk in which left and right tell their classes by turns, and the turns of talks.

place_of and end_of are there for other modules, too, that make talks of parts.
"""

from nomoretold.knots import can_be_told, parts_below, require_told
from nomoretold.tables import columns_together, whole_part
from nomoretold.talks import ends_of, require_talk, things_of


def class_talk(table):
    """The talk in which they tell their classes by turns, begun by whom it takes fewer turns."""
    require_told(table)
    parts = _parts_below_whole(table)
    if not parts:
        return end_of(table, whole_part(table))
    return place_of(table, parts, [_talk_from(table, part) for part in parts])


def _talk_from(table, part):
    """The talk in which they tell their classes by turns, going down from the part."""
    below = parts_below(table, part)
    if not below:
        return end_of(table, part)
    return place_of(table, below, [_talk_from(table, lower) for lower in below])


def _parts_below_whole(table):
    """The parts that come next below the whole table, by who begins in a class talk."""
    parts = parts_below(table, whole_part(table))
    parts_by_right = _parts_by_right(table)
    # Where only one of them can begin, parts_below tells whom already.
    if parts_by_right and _turns_over(table, parts_by_right) < _turns_over(table, parts):
        return parts_by_right
    return parts


def _parts_by_right(table):
    """The parts of the whole table's column classes; none if there is one class alone."""
    rows, columns = whole_part(table)
    lots = columns_together(table, (rows, columns))
    return [(rows, lot) for lot in lots] if len(lots) > 1 else []


def _turns_over(table, parts):
    """The turns of going down by classes from a place above these parts; 0 above no parts."""
    if not parts:
        return 0
    # Where rows were told, those left hang together, and so do columns: they speak by turns.
    return 1 + max([_turns_over(table, parts_below(table, part)) for part in parts])


def end_of(table, part):
    """The end that tells the answer of a part of one answer."""
    rows, columns = part
    return ("answer", table[rows[0]][columns[0]])


def place_of(table, parts, talks):
    """The place at which is told in which of these parts the things are; a talk behind each.

    There are two or more parts, of unlike rows and like columns or the other way round.
    """
    if parts[0][0] != parts[1][0]:
        return ("say", "left", _branches([rows for rows, _ in parts], len(table), talks))
    return ("say", "right", _branches([columns for _, columns in parts], len(table[0]), talks))


def _branches(lots, many, talks):
    """A branch for each lot of one's things, as many as told; the first one for things in no lot."""
    all_told = [thing for lot in lots for thing in lot]
    first_one = [thing for thing in range(many) if thing in lots[0] or thing not in all_told]
    branches = []
    for lot, talk in zip([first_one] + lots[1:], talks):
        weights = tuple([1 if thing in lot else 0 for thing in range(many)])
        branches.append((weights, talk))
    return tuple(branches)


def turns(table, talk):
    """The most turns of a way that can come for some things."""
    require_talk(table, talk)
    speakers = {way: thing[1] for way, thing in things_of(talk) if thing[0] == "say"}
    most = 0
    for way, _, lefts, rights in ends_of(table, talk):
        if _comes_for_some(lefts) and _comes_for_some(rights):
            most = max(most, _turns_of([speakers[way[:length]] for length in range(len(way))]))
    return most


def _comes_for_some(ratios):
    """Whether one of the ratios is above 0."""
    return any([top > 0 for top, _ in ratios])


def _turns_of(speakers):
    """How many rows of one speaker, as long as may be, these speakers are, one behind another."""
    changes = [1 for one, following in zip(speakers, speakers[1:]) if one != following]
    return len(changes) + min(1, len(speakers))


def fewest_turns(table):
    """The least number of turns of a talk that is right and tells no more; None if there is none."""
    if not can_be_told(table):
        return None
    return _turns_over(table, _parts_below_whole(table))
