"""What the tests share: values of every kind, tables, and the rules told a second, plainer way."""

import random
from itertools import combinations


def nested(kind, depth):
    """A tuple, list or dict that is nested so deep."""
    value = 0
    for _ in range(depth):
        value = {"tuple": (value,), "list": [value], "dict": {0: value}}[kind]
    return value


# No one of these is a table, a part or a number.
WRONG_VALUES = [
    None, True, False, "", "0", "left", "((0,),)", "rows 1\n0\n",
    [], [[0]], [(0,)], [[0, 1], [2, 3]], {}, {0: 0}, {0: (0,)}, {(0,): 1}, {(): ()},
    (None,), (True,), (False, True), ("",), ("0", "1"), ({},), ([],), ((), [], {}),
    nested("tuple", 200), nested("list", 200), nested("dict", 200),
    (nested("tuple", 199),), (nested("list", 199),), (nested("dict", 199),),
    (nested("tuple", 198), nested("list", 198)), [nested("dict", 199)], {"a": nested("list", 199)},
]

# Integers are no tables and no parts either.
WRONG_INTEGERS = [0, 1, -1, 6, 99, 100, 10 ** 40, -10 ** 5000]

WRONG_TABLES = WRONG_VALUES + WRONG_INTEGERS + [
    (), ((),), ((), ()), ((0,), ()), ((), (0,)),
    ((0, 1), (0,)), ((0,), (0, 1)), ((0, 1), (0, 1), (0, 1, 2)),
    ((0,),) * 7, ((0,) * 7,), ((0,) * 6,) * 7, ((0,) * 7,) * 6, ((0,) * 7,) * 7,
    ((-1,),), ((100,),), ((0, 1), (2, 100)), ((0, 1), (-1, 2)), ((10 ** 5000,),),
    ((True,),), ((False,),), ((0, 1), (0, True)), ((0, False), (0, 1)),
    ((None,),), (("0",),), (("0", "1"),), ("01", "10"), ("0",), (b"\x00",),
    ([0, 1], [1, 0]), [(0, 1), (1, 0)], ((0, 1), [1, 0]), ([0], (0,)),
    (((0,),),), ((0, (0,)),), ((0, [0]),), ((0, {}),), (0, 1), (0, (0,)), ((0,), 0), ((0,), None),
    ({0: 0},), ({0, 1}, (0, 1)), ((nested("tuple", 198),),), ((nested("list", 198),),),
    ((0, nested("dict", 198)),),
]

# What is no part of a table of two rows and three columns.
WRONG_PARTS = WRONG_VALUES + WRONG_INTEGERS + [
    (), ((), ()), ((0,),), ((0,), (0,), (0,)), ((0,), ()), ((), (0,)),
    ((1, 0), (0, 1)), ((0, 1), (1, 0)), ((0, 1), (0, 2, 1)), ((0, 0), (0,)), ((0,), (1, 1)),
    ((0, 1, 1), (0,)), ((0,), (0, 1, 1, 2)),
    ((2,), (0,)), ((0,), (3,)), ((0, 1, 2), (0,)), ((0,), (0, 1, 2, 3)), ((0, 2), (0,)),
    ((-1,), (0,)), ((0,), (-1,)), ((-1, 0), (0,)), ((0,), (-1, 0, 1)), ((10 ** 40,), (0,)),
    ((True,), (0,)), ((0,), (True,)), ((False,), (0,)), ((0,), (False, 1)), ((0, True), (0,)),
    ((0,), (0, True)), (True, (0,)), ((0,), False), (0, 0), (0, (0,)), ((0,), 0), ((0,), None),
    ([0], (0,)), ((0,), [0]), [(0,), (0,)], [[0], [0]], ([0, 1], [0, 1]),
    ("0", "0"), ((0,), "0"), ("01", (0,)), (("0",), (0,)), ((0,), ("0",)), "00",
    ({0: 0}, (0,)), ((0,), {0: 0}), (((0,),), ((0,),)), ((0, (1,)), (0,)), ((0,), ([0],)),
    ((None,), (0,)), ((0,), (None,)), ((0,), (0, None)), ((0, "1"), (0,)), ((0,), (0, [1])),
    ((nested("tuple", 197),), (0,)), ((0,), (nested("list", 197),)), ((0,), nested("dict", 198)),
]


def random_tables(many, most_answers, seed):
    """Tables of all sizes by chance, the same ones for the same seed."""
    chance = random.Random(seed)
    tables = []
    for _ in range(many):
        rows, columns = chance.randint(1, 6), chance.randint(1, 6)
        answers = chance.sample(range(100), chance.randint(1, most_answers))
        tables.append(tuple(tuple(chance.choice(answers) for _ in range(columns)) for _ in range(rows)))
    return tables


def told_table(rows, columns, seed):
    """A table that is parted again and again into things with answers of their own."""
    chance = random.Random(seed)
    answers = chance.sample(range(100), 36)
    cells = {}

    def fill(xs, ys):
        sides = [side for side in (xs, ys) if len(side) > 1]
        if not sides or chance.random() < 0.2:
            answer = answers.pop()
            cells.update({(x, y): answer for x in xs for y in ys})
            return
        side = chance.choice(sides)
        some = set(chance.sample(side, chance.randint(1, len(side) - 1)))
        one, other = [z for z in side if z in some], [z for z in side if z not in some]
        if side is xs:
            fill(one, ys), fill(other, ys)
        else:
            fill(xs, one), fill(xs, other)

    fill(list(range(rows)), list(range(columns)))
    return tuple(tuple(cells[x, y] for y in range(columns)) for x in range(rows))


def plain_lots(many):
    """All ascending tuples of one or more of the numbers below many."""
    return [lot for size in range(1, many + 1) for lot in combinations(range(many), size)]


def plain_parts(table):
    """All parts, by rows and columns together, then by rows, then by columns."""
    parts = [(rows, columns) for rows in plain_lots(len(table)) for columns in plain_lots(len(table[0]))]
    return sorted(parts, key=lambda part: (len(part[0]) + len(part[1]), part[0], part[1]))


def plain_classes(numbers, are_near):
    """The classes of numbers that chains of near ones join: merged until none can be merged."""
    lots = [{number} for number in numbers]
    merged = True
    while merged:
        merged = False
        for one, other in combinations(lots, 2):
            if any(are_near(a, b) for a in one for b in other):
                lots = [lot for lot in lots if lot not in (one, other)] + [one | other]
                merged = True
                break
    return tuple(sorted(tuple(sorted(lot)) for lot in lots))


def plain_row_classes(table, part):
    rows, columns = part
    return plain_classes(rows, lambda a, b: any(table[a][y] == table[b][y] for y in columns))


def plain_column_classes(table, part):
    rows, columns = part
    return plain_classes(columns, lambda a, b: any(table[x][a] == table[x][b] for x in rows))


def plain_answers(table, part):
    return {table[x][y] for x in part[0] for y in part[1]}


def plain_is_knotted(table, part):
    return (
        len(plain_answers(table, part)) > 1
        and len(plain_row_classes(table, part)) == 1
        and len(plain_column_classes(table, part)) == 1
    )


def plain_least_knot(table):
    return next((part for part in plain_parts(table) if plain_is_knotted(table, part)), None)


def plain_stuck(table):
    """Going down with a pile of parts, the next one on top."""
    pile = [(tuple(range(len(table))), tuple(range(len(table[0]))))]
    while pile:
        rows, columns = part = pile.pop()
        if len(plain_answers(table, part)) == 1:
            continue
        row_lots, column_lots = plain_row_classes(table, part), plain_column_classes(table, part)
        if len(row_lots) > 1:
            pile.extend((lot, columns) for lot in reversed(row_lots))
        elif len(column_lots) > 1:
            pile.extend((rows, lot) for lot in reversed(column_lots))
        else:
            return part
    return None


def error_of(call, *given):
    """The error that a call raises; None if it raises none."""
    try:
        call(*given)
    except Exception as error:
        return error
    return None


def check_order(test, call, good, wrong):
    """Each wrong value raises its error, whatever stands behind it.

    good: arguments with which the call raises nothing. wrong: for each argument the pairs
    of a wrong value and its error, as a class, or as a class and its field with a value.
    """
    for at, pairs in enumerate(wrong):
        for value, told in pairs:
            for behind in (good[at + 1:], [None] * (len(good) - at - 1), [value] * (len(good) - at - 1)):
                with test.subTest(call.__name__, at=at):
                    check_error(test, told, call, *good[:at], value, *behind)


def check_error(test, told, call, *given):
    """The call raises the error that is told: a class, or a tuple of a class, a field and its value."""
    error = error_of(call, *given)
    if isinstance(told, tuple):
        test.assertIs(type(error), told[0])
        test.assertEqual(vars(error), {told[1]: told[2]})
        test.assertIs(type(getattr(error, told[1])), type(told[2]))
    else:
        test.assertIs(type(error), told)
        test.assertEqual(vars(error), {})
