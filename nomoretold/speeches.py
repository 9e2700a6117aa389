"""The language in which talks are written: speeches checked, read, printed and judged."""

from nomoretold.errors import Doubled, Lacking, Needless, NoThing, TooMany, Twice, Unknown, Unlike
from nomoretold.judging import judged
from nomoretold.speechtexts import read_speech, written
from nomoretold.tables import require_table
from nomoretold.talks import MOST_IN_ALL, MOST_PLACES, require_talk


def check(text):
    """Raise the error that tells why the text is no speech; None if it is one."""
    _checked(text)


def _checked(text):
    """The tree of a speech; raises the errors of check."""
    tree = read_speech(text)
    lefts, rights, named, last = tree
    things = {"left": lefts, "right": rights}
    names = {}
    for name, told in named:
        if name in names:
            raise Twice(name)
        _check_told(told, things, names)
        names[name] = True
    _check_told(last, things, names)
    return tree


def _check_told(told, things, names):
    """Check an answer, a name or a place by the names told ahead and the numbers of things."""
    if told[0] == "name" and told[1] not in names:
        raise Unknown(told[1])
    if told[0] == "say":
        _, who, branches = told
        for lot, behind in branches:
            if lot is not None:
                _check_lot(lot, things[who])
            _check_told(behind, things, names)
        _check_all_told([lot for lot, _ in branches], things[who])


def _check_lot(lot, many):
    """Raise NoThing or Doubled for the first thing of the lot that is wrong."""
    met = []
    for thing, _ in lot:
        if thing >= many:
            raise NoThing(thing)
        if thing in met:
            raise Doubled(thing)
        met.append(thing)


def _check_all_told(lots, many):
    """Raise Lacking or Needless unless each thing has a weight, and an else stands for some thing."""
    left_over = _left_over(lots, many)
    has_else = any([lot is None for lot in lots])
    if left_over and not has_else:
        raise Lacking(left_over[0])
    if has_else and not left_over:
        raise Needless("the else stands for no thing")


def _left_over(lots, many):
    """The things that stand in no lot of these, ascending."""
    told = [thing for lot in lots if lot is not None for thing, _ in lot]
    return [thing for thing in range(many) if thing not in told]


def talk_of(text):
    """The triple of the numbers of things of left and of right, and the talk that is told."""
    lefts, rights, named, last = _checked(text)
    things = {"left": lefts, "right": rights}
    meanings = {}
    for name, told in named:
        meanings[name] = _meant(told, things, meanings)
    many, places, talk = _meant(last, things, meanings)
    if many > MOST_IN_ALL or places > MOST_PLACES:
        raise TooMany(MOST_IN_ALL)
    return (lefts, rights, talk)


def _meant(told, things, meanings):
    """How many places and ends are told in all, how many places on a way, and the talk."""
    # Names within names make talks of any size: so they are counted, not gone through.
    if told[0] == "name":
        return meanings[told[1]]
    if told[0] == "answer":
        return (1, 0, told)
    _, who, branches = told
    behind = [_meant(below, things, meanings) for _, below in branches]
    weights = _weights_of([lot for lot, _ in branches], things[who])
    talk = ("say", who, tuple(zip(weights, [talk_behind for _, _, talk_behind in behind])))
    return (1 + sum([many for many, _, _ in behind]), 1 + max([places for _, places, _ in behind]), talk)


def _weights_of(lots, many):
    """For each lot the tuple of the weights of all things."""
    else_lot = [(thing, 1) for thing in _left_over(lots, many)]
    found = []
    for lot in lots:
        weight_of = {thing: weight for thing, weight in (else_lot if lot is None else lot)}
        found.append(tuple([weight_of.get(thing, 0) for thing in range(many)]))
    return found


def printed(text):
    """The speech in one form."""
    return written(_checked(text))


def speech(table, talk):
    """The printed text of the speech without names that tells this talk of the table."""
    require_talk(table, talk)
    return written((len(table), len(table[0]), [], _tree_of(talk)))


def _tree_of(talk):
    """The tree, without names and else, that tells the talk."""
    if talk[0] == "answer":
        return talk
    _, who, branches = talk
    return ("say", who, [(_lot_of(weights), _tree_of(behind)) for weights, behind in branches])


def _lot_of(weights):
    """The lot of the things with a weight above 0."""
    return [(thing, weight) for thing, weight in enumerate(weights) if weight > 0]


def judged_text(table, text):
    """None if the talk that is told is right for the table and tells no more; otherwise its first fault."""
    require_table(table)
    lefts, rights, talk = talk_of(text)
    if (lefts, rights) != (len(table), len(table[0])):
        raise Unlike("the speech is not of as many things as the table")
    return judged(table, talk)
