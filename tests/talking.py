"""What tests of talks share: talks, wrong ones with the ways to their faults, and plainer reckonings."""

from fractions import Fraction
from itertools import combinations

from nomoretold.errors import BadTable, BadTalk
from support import WRONG_INTEGERS, WRONG_TABLES, WRONG_VALUES, error_of, nested, plain_answers

BIDS = ((0, 3), (2, 2))
EITHER = ((0, 0), (0, 1))
# Rows fall apart into (0, 1) and (2,), columns into (0,) and (1, 2). Left needs three turns
# (rows, columns, rows), right two alone.
BY_RIGHT = ((0, 1, 1), (0, 2, 2), (3, 4, 4))


def end(answer):
    return ("answer", answer)


def say(who, *branches):
    """A place, by the weights of each branch and the talk behind it."""
    return ("say", who, branches)


# The table of two and three for which there are wrong talks below.
WIDE = ((0, 1, 2), (1, 2, 0))
LEFT_ONE = say("left", ((1, 1), end(0)))
RIGHT_ONE = say("right", ((1, 1, 1), end(0)))


def chain_of(many, last=end(0)):
    """So many places of left, one behind another, and a thing behind them."""
    talk = last
    for _ in range(many):
        talk = say("left", ((1, 1), talk))
    return talk


def bush(depth, last=end(0)):
    """Places of six branches, so many on each way."""
    talk = last
    for _ in range(depth):
        talk = say("left", *[((1, 1), talk)] * 6)
    return talk


def sized(many, last=end(3)):
    """A talk of so many things, with few places on a way; the last thing is the one handed in."""
    if many == 1:
        return last
    shares = [(many - 1 + k) // 6 for k in range(6)]
    talks = [sized(share) for share in shares[:-1] if share] + [sized(shares[-1], last)]
    return say("left", *[((1, 1), talk) for talk in talks])


# No one of these is an end or a place of a talk of WIDE.
WRONG_THINGS = WRONG_VALUES + WRONG_INTEGERS + WRONG_TABLES + [
    "answer", ("answer",), ("answer", 0, 0), ["answer", 0], ("Answer", 0), ("answers", 0), (0, "answer"),
    ("answer", -1), ("answer", 100), ("answer", 10 ** 5000), ("answer", True), ("answer", False),
    ("answer", None), ("answer", "0"), ("answer", (0,)), ("answer", [0]), ("answer", nested("tuple", 199)),
    ("say",), ("say", "left"), ("say", 0), ("say", "left", 0), ("say", "left", None), ("say", "left", ()),
    ("say", "left", []), ("say", "left", {}), ("say", "left", "01"), ("say", "left", ((1, 1), end(0))),
    ("say", "left", [((1, 1), end(0))]), ["say", "left", (((1, 1), end(0)),)],
    ("say", "left", (((1, 1), end(0)),), 0), ("tell", "left", (((1, 1), end(0)),)),
    ("say", "middle", (((1, 1), end(0)),)), ("say", "Left", (((1, 1), end(0)),)), ("say", 0, (((1, 1), end(0)),)),
    ("say", None, (((1, 1), end(0)),)), ("say", ("left",), (((1, 1), end(0)),)), ("say", ["left"], ()),
    *[("say", who, (((1, 1, 1), end(0)),)) for who in ("middle", "Right", "", 1, None, True, ("right",), ["left"], {})],
    say("left", *[((1, 1), end(0))] * 7), say("right", *[((1, 1, 1), end(0))] * 7),
    say("left", [(1, 1), end(0)]), say("left", ((1, 1),)), say("left", ((1, 1), end(0), 0)), say("left", (1, 1)),
    say("left", ([1, 1], end(0))), say("left", ("11", end(0))), say("left", ({0: 1, 1: 1}, end(0))),
    say("left", (None, end(0))), say("left", (1, end(0))), say("left", ((), end(0))),
    # Weights for too few things, for too many, and for those of the other one.
    say("left", ((1,), end(0))), say("left", ((1, 1, 1), end(0))), say("right", ((1, 1), end(0))),
    say("right", ((1, 1, 1, 1), end(0))), say("right", ((1,), end(0))),
    say("left", ((1, 1), end(0)), ((1, 1, 1), end(0))),
    # Weights that are none.
    say("left", ((1, -1), end(0))), say("left", ((1, 1000), end(0))), say("left", ((1, True), end(0))),
    say("left", ((False, 1), end(0)), ((1, 1), end(0))), say("left", ((1, "1"), end(0))),
    say("left", ((1, None), end(0))), say("left", ((1, (1,)), end(0))), say("left", ((1, 10 ** 5000), end(0))),
    say("left", ((1, nested("list", 190)), end(0))),
    # A thing without a weight above 0 in any branch; a branch without one for any thing.
    say("left", ((1, 0), end(0))), say("left", ((0, 1), end(0)), ((0, 2), end(0))),
    say("right", ((1, 0, 1), end(0)), ((1, 0, 0), end(0))), say("right", ((0, 0, 0), end(0))),
    say("left", ((1, 1), end(0)), ((0, 0), end(0))), say("left", ((0, 0), end(0)), ((1, 1), end(0))),
    say("right", ((1, 1, 1), end(0)), ((0, 0, 0), end(0)), ((1, 1, 1), end(0))),
]


def _beside_and_below(wrong):
    """Talks with a wrong thing in them, and the way to it."""
    return [
        (wrong, ()),
        (say("left", ((1, 1), wrong)), (0,)),
        (say("right", ((1, 1, 1), end(0)), ((1, 0, 0), wrong)), (1,)),
        (say("left", ((1, 1), LEFT_ONE), ((0, 3), RIGHT_ONE), ((1, 1), say("right", ((1, 1, 1), wrong)))), (2, 0)),
        # A wrong thing behind this one does not come first, be it nearer to the beginning.
        (say("left", ((1, 1), say("right", ((1, 1, 1), end(0)), ((1, 1, 1), wrong))), ((1, 1), None)), (0, 1)),
        (say("left", ((1, 1), wrong), ((1, 1), wrong)), (0,)),
    ]


# Wrong talks of WIDE, with the ways that BadTalk tells.
WRONG_TALKS = [pair for wrong in WRONG_THINGS for pair in _beside_and_below(wrong)] + [
    # A place whose own branches are wrong comes ahead of what stands in them.
    (say("left", ((1, 0), None)), ()),
    (say("left", ((1, 1), say("left", ((0, 1), None), ((0, 1), end(0))))), (0,)),
    # Whatever stands in its branches, this is a place.
    (say("left", ((1, 0), None), ((0, 1), end(0))), (0,)),
    (say("left", ((1, 0), end(0)), ((0, 1), {})), (1,)),
    # The 41st place on its way.
    (chain_of(41), (0,) * 40),
    (chain_of(45), (0,) * 40),
    (chain_of(40, None), (0,) * 40),
    (chain_of(39, say("left", ((1, 1), end(0)), ((1, 1), LEFT_ONE))), (0,) * 39 + (1,)),
    (chain_of(39, say("left", ((1, 1), LEFT_ONE), ((1, 1), None))), (0,) * 40),
    (chain_of(38, say("left", ((1, 1), None), ((1, 1), chain_of(2)))), (0,) * 39),
    # The 401st thing, be it right or wrong.
    (say("left", ((1, 1), sized(200)), ((1, 1), sized(199)), ((1, 1), end(0))), (2,)),
    (say("left", ((1, 1), sized(200)), ((1, 1), sized(199)), ((1, 1), sized(200))), (2,)),
    (say("left", ((1, 1), sized(200)), ((1, 1), sized(199)), ((1, 1), None)), (2,)),
    (say("left", ((1, 1), sized(200)), ((1, 1), sized(198)), ((1, 1), LEFT_ONE)), (2, 0)),
    (say("left", ((1, 1), sized(200)), ((1, 1), sized(198)), ((1, 1), end(0)), ((1, 1), LEFT_ONE)), (3,)),
    (say("left", ((1, 1), sized(200)), ((1, 1), None), ((1, 1), sized(200))), (1,)),
    (sized(401), (5, 5, 5, 0)),
    (sized(401, None), (5, 5, 5, 0)),
    # Six times one thing, four deep: 260 things stand ahead of (1,), 390 ahead of (1, 3), 398 ahead of (1, 3, 1).
    (bush(4), (1, 3, 1, 1)),
]


def plain_things(talk):
    """The things of a talk by their ways, a place ahead of what stands behind it."""
    found = {(): talk}
    if talk[0] == "say":
        for number, (_, behind) in enumerate(talk[2]):
            for way, thing in plain_things(behind).items():
                found[(number,) + way] = thing
    return found


def plain_ends(talk):
    return {way: thing[1] for way, thing in plain_things(talk).items() if thing[0] == "answer"}


def plain_chances(talk, x, y):
    """The chances, fractions, of the ends that can come."""
    if talk[0] == "answer":
        return {(): Fraction(1)}
    own = x if talk[1] == "left" else y
    whole = sum(weights[own] for weights, _ in talk[2])
    found = {}
    for number, (weights, behind) in enumerate(talk[2]):
        if weights[own]:
            for way, chance in plain_chances(behind, x, y).items():
                found[(number,) + way] = Fraction(weights[own], whole) * chance
    return found


def all_chances(table, talk):
    return {(x, y): plain_chances(talk, x, y) for x in range(len(table)) for y in range(len(table[0]))}


def plain_faults(table, talk):
    """All faults, in the order told."""
    answers, coming = plain_ends(talk), all_chances(table, talk)
    rows, columns = range(len(table)), range(len(table[0]))
    found = [
        ("wrong", x, y, way) for x in rows for y in columns for way in sorted(coming[x, y])
        if answers[way] != table[x][y]
    ]
    for y in columns:
        for x, other in combinations(rows, 2):
            if table[x][y] == table[other][y]:
                ways = [way for way in sorted(answers) if coming[x, y].get(way, 0) != coming[other, y].get(way, 0)]
                found += [("told", "right", y, x, other, way) for way in ways]
    for x in rows:
        for y, other in combinations(columns, 2):
            if table[x][y] == table[x][other]:
                ways = [way for way in sorted(answers) if coming[x, y].get(way, 0) != coming[x, other].get(way, 0)]
                found += [("told", "left", x, y, other, way) for way in ways]
    return found


def some_weights(chance, many, branches, plain):
    """Weights for some branches: a list of tuples, by chance; plain: each thing in one branch alone."""
    while True:
        if plain:
            told = [chance.randrange(branches) for _ in range(many)]
            weights = [tuple(chance.randint(1, 3) * (to == k) for to in told) for k in range(branches)]
        else:
            weights = [tuple(chance.choice((0, 0, 1, 1, 2, 3, 999)) for _ in range(many)) for _ in range(branches)]
        if all(map(any, weights)) and all(map(any, zip(*weights))):
            return weights


def some_talk(chance, table, depth, plain=False):
    """A talk by chance; an end tells the answer of some things for which it can come, if it can."""
    can = (tuple(range(len(table))), tuple(range(len(table[0]))))
    return _some_talk(chance, table, can, depth, plain)


def _some_talk(chance, table, can, depth, plain):
    if depth == 0 or chance.random() < 0.15:
        answers = [table[x][y] for x in can[0] for y in can[1]]
        return end(chance.choice(answers) if answers else chance.randrange(100))
    who = chance.choice(("left", "right"))
    many = len(table) if who == "left" else len(table[0])
    branches = chance.randint(1, min(many, 3) if plain else 3)
    talks = []
    for weights in some_weights(chance, many, branches, plain):
        some = tuple(thing for thing in can[who == "right"] if weights[thing])
        below = (some, can[1]) if who == "left" else (can[0], some)
        talks.append((weights, _some_talk(chance, table, below, depth - 1, plain)))
    return say(who, *talks)


def right_talk(chance, table, plain=False):
    """A talk by chance that is right: it goes on where those for whom a way comes have unlike answers."""
    can = (tuple(range(len(table))), tuple(range(len(table[0]))))
    return _right_talk(chance, table, can, plain)


def _right_talk(chance, table, can, plain):
    answers = {table[x][y] for x in can[0] for y in can[1]}
    if len(answers) < 2 and (not answers or chance.random() < 0.8):
        return end(min(answers, default=7))
    who = chance.choice([who for who, own in zip(("left", "right"), can) if len(own) > 1] or ["left"])
    many, own = (len(table), can[0]) if who == "left" else (len(table[0]), can[1])
    while True:
        weights = some_weights(chance, many, min(many, 2), plain)
        parts = [tuple(thing for thing in own if weight[thing]) for weight in weights]
        if max(map(len, parts)) < len(own) or len(answers) < 2:
            break
    talks = []
    for weight, some in zip(weights, parts):
        below = (some, can[1]) if who == "left" else (can[0], some)
        talks.append((weight, _right_talk(chance, table, below, plain)))
    return say(who, *talks)


def whole(table):
    return (tuple(range(len(table))), tuple(range(len(table[0]))))


def all_halves(things):
    """All pairs of lots, not empty, of which each thing stands in one."""
    for size in range(1, len(things)):
        for one in combinations(things, size):
            if things[0] in one:
                yield one, tuple(thing for thing in things if thing not in one)


def with_answers(table, talk, can):
    """The talk with the answers that it must tell to be right; None if an end must tell several."""
    if talk[0] == "answer":
        answers = plain_answers(table, can)
        return end(min(answers, default=0)) if len(answers) < 2 else None
    branches = []
    for weights, behind in talk[2]:
        some = tuple(thing for thing in can[talk[1] == "right"] if weights[thing])
        told = with_answers(table, behind, (some, can[1]) if talk[1] == "left" else (can[0], some))
        if told is None:
            return None
        branches.append((weights, told))
    return say(talk[1], *branches)


def check_bad_table(test, call, *rest):
    """The call raises BadTable for what is no table, whatever stands behind it."""
    for value in WRONG_TABLES:
        for behind in (rest, [None] * len(rest), [value] * len(rest)):
            with test.subTest(call.__name__):
                test.assertIs(type(error_of(call, value, *behind)), BadTable)


def check_bad_talk(test, call, *rest):
    """The call raises BadTalk with its way for what is no talk of WIDE, whatever stands behind it."""
    for value, way in WRONG_TALKS:
        for behind in (rest, [None] * len(rest)):
            error = error_of(call, WIDE, value, *behind)
            with test.subTest(call.__name__, way=way):
                test.assertIs(type(error), BadTalk)
                test.assertEqual(error.way, way)
                test.assertIs(type(error.way), tuple)
