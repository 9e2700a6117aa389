"""Votes of many people: own bits, odd squares, and what two halves of the people would talk about."""

from itertools import combinations

from nomoretold.errors import BadSquare, BadThings, BadVote
from nomoretold.kinds import is_number, multiplied, rows_below

LEAST_PEOPLE = 2
MOST_PEOPLE = 5
LEAST_SIZE = 2
MOST_SIZE = 3


def _require_vote(vote):
    """Raise BadVote unless the value is a vote."""
    if not _is_vote(vote):
        raise BadVote("a vote is a pair of 2 to 5 sizes, 2 or 3, and a text of a bit for each row of things")


def _is_vote(value):
    """Whether the value is a vote."""
    if not isinstance(value, tuple) or len(value) != 2:
        return False
    sizes, bits = value
    if not isinstance(sizes, tuple) or not LEAST_PEOPLE <= len(sizes) <= MOST_PEOPLE:
        return False
    if not all([is_number(size, LEAST_SIZE, MOST_SIZE) for size in sizes]):
        return False
    if not isinstance(bits, str) or len(bits) != multiplied(sizes):
        return False
    return all([bit in "01" for bit in bits])


def _row_number(sizes, things):
    """The number of the row of things among all rows, ascending."""
    number = 0
    for size, thing in zip(sizes, things):
        number = number * size + thing
    return number


def _bit(vote, things):
    """As vote_of, unchecked."""
    sizes, bits = vote
    return int(bits[_row_number(sizes, things)])


def _are_things(vote, value):
    """Whether the value is a tuple of a thing for each person."""
    sizes, _ = vote
    if not isinstance(value, tuple) or len(value) != len(sizes):
        return False
    return all([is_number(thing, 0, size - 1) for thing, size in zip(value, sizes)])


def vote_of(vote, things):
    """The bit, an integer, for a row of things."""
    _require_vote(vote)
    if not _are_things(vote, things):
        raise BadThings("a row of things has one of each person's own")
    return _bit(vote, things)


def _put(things, person, thing):
    """The row of things with another thing for one person."""
    return things[:person] + (thing,) + things[person + 1:]


def own_bits(vote):
    """The texts of own bits whose sum by 2 is always the vote; None if there are none."""
    _require_vote(vote)
    sizes, _ = vote
    bits = [_own_bits_of(vote, person) for person in range(len(sizes))]
    for things in rows_below(sizes):
        if sum([own[thing] for own, thing in zip(bits, things)]) % 2 != _bit(vote, things):
            return None
    return tuple(["".join([str(bit) for bit in own]) for own in bits])


def _own_bits_of(vote, person):
    """The person's bits, one for each thing, which are the only ones that there can be."""
    sizes, _ = vote
    zeros = (0,) * len(sizes)
    # With 0 for the others, the vote is the own bit, and person 0's for thing 0 if that is another one.
    besides = 0 if person == 0 else _bit(vote, zeros)
    return [(_bit(vote, _put(zeros, person, thing)) + besides) % 2 for thing in range(sizes[person])]


def odd_square(vote):
    """The least odd square; None if there is none."""
    _require_vote(vote)
    sizes, _ = vote
    rows = rows_below(sizes)
    for one, other in combinations(range(len(sizes)), 2):
        for things in rows:
            for a in range(things[one] + 1, sizes[one]):
                for b in range(things[other] + 1, sizes[other]):
                    if _is_odd(vote, (one, other, things, a, b)):
                        return (one, other, things, a, b)
    return None


def _table_of(vote, square):
    """As square_table, unchecked."""
    one, other, things, a, b = square
    rows = [things, _put(things, one, a)]
    return tuple([(_bit(vote, row), _bit(vote, _put(row, other, b))) for row in rows])


def _is_odd(vote, square):
    """Whether one or three of the square's four rows have vote 1."""
    return sum([sum(row) for row in _table_of(vote, square)]) % 2 == 1


def shows_odd(vote, value):
    """Whether the value is an odd square of the vote."""
    _require_vote(vote)
    return _is_square(vote, value) and _is_odd(vote, value)


def _is_square(vote, value):
    """Whether the value is two people, a row of things, and another thing for each of the two."""
    sizes, _ = vote
    if not isinstance(value, tuple) or len(value) != 5:
        return False
    one, other, things, a, b = value
    if not is_number(other, 0, len(sizes) - 1) or not is_number(one, 0, other - 1):
        return False
    if not _are_things(vote, things):
        return False
    return is_number(a, things[one] + 1, sizes[one] - 1) and is_number(b, things[other] + 1, sizes[other] - 1)


def _require_square(vote, square):
    """Raise BadVote, or BadSquare unless the last value is an odd square of the vote."""
    if not shows_odd(vote, square):
        raise BadSquare("an odd square has four rows of things, one or three of them with vote 1")


def greatest_lot(vote):
    """The greatest size of lots that learn no more where people find out the vote two and two."""
    if own_bits(vote) is not None:
        return len(vote[0])
    return (len(vote[0]) - 1) // 2


def halves(vote, square):
    """Two lots of all people: half of them, rounded up, with the square's one; and those with other."""
    _require_square(vote, square)
    one, other = square[:2]
    people = range(len(vote[0]))
    besides = [person for person in people if person not in (one, other)]
    first = sorted([one] + besides[:(len(vote[0]) + 1) // 2 - 1])
    return (tuple(first), tuple([person for person in people if person not in first]))


def square_table(vote, square):
    """The table of the votes on the square's four rows, left being one, and right the other."""
    _require_square(vote, square)
    return _table_of(vote, square)
