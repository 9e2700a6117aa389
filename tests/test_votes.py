import random
import unittest
from itertools import combinations, product

from nomoretold.errors import BadSquare, BadThings, BadVote
from nomoretold.tables import is_knotted, is_table
from nomoretold.votes import greatest_lot, halves, odd_square, own_bits, shows_odd, square_table, vote_of
from support import WRONG_INTEGERS, WRONG_VALUES, check_error, check_order, error_of, nested

MOST, ODD = ((2, 2, 2), "00010111"), ((2, 2), "0110")
ALL = [vote_of, own_bits, odd_square, shows_odd, greatest_lot, halves, square_table]
BEHIND = {vote_of: [(0, 0, 0)], shows_odd: [None], halves: [(0, 1, (0, 0, 0), 1, 1)],
          square_table: [(0, 1, (0, 0, 0), 1, 1)]}
SIZES = [sizes for many in range(2, 6) for sizes in product((2, 3), repeat=many)]

WRONG_VOTES = WRONG_VALUES + WRONG_INTEGERS + [
    (), ((2, 2),), ((2, 2), "0000", 0), [(2, 2), "0000"], ("0000", (2, 2)), ((2, 2), ["0", "0", "0", "0"]),
    ((2, 2), ("0", "0", "0", "0")), ((2, 2), (0, 0, 0, 0)), ((2, 2), 0), ((2, 2), None), ((2, 2), b"0000"),
    ((2, 2), ""), ((2, 2), "000"), ((2, 2), "00000"), ((2, 2), "0002"), ((2, 2), "000 "), ((2, 2), "000\n"),
    ((2, 2), "000\u0661"), ((2, 2), "000\uff10"), ((2, 2), "00-1"), ((2, 2), "0" * 6), ((2, 3), "0" * 4),
    ((2, 3), "0" * 5), ((3, 3), "0" * 8), ((3, 3), "0" * 10),
    ([2, 2], "0000"), ("22", "0000"), ((), "0"), ((2,), "00"), ((3,), "000"), ((2,) * 6, "0" * 64),
    ((1, 2), "00"), ((2, 1), "00"), ((0, 2), ""), ((2, 4), "0" * 8), ((-2, -2), "0000"), ((2, True), "00"),
    ((True, True), "0"), ((2, "2"), "0000"), ((2, None), "0000"), ((2, (2,)), "0000"), ((2, 10 ** 5000), "0000"),
    ((2, 2), nested("tuple", 199)), (nested("tuple", 199), "0000"), ((2, nested("list", 198)), "0000"),
]


def votes_of(sizes):
    """All votes of these sizes."""
    return [(sizes, "".join(bits)) for bits in product("01", repeat=len(plain_rows(sizes)))]


def plain_rows(sizes):
    return list(product(*[range(size) for size in sizes]))


def plain_votes(vote):
    """The bits by the rows of things."""
    sizes, bits = vote
    return dict(zip(plain_rows(sizes), map(int, bits)))


def some_vote(chance, sizes):
    return (sizes, "".join(chance.choice("01") for _ in plain_rows(sizes)))


def sum_vote(chance, sizes):
    """A vote that is a sum of own bits, and these."""
    bits = [[chance.choice((0, 1)) for _ in range(size)] for size in sizes]
    votes = [sum(own[thing] for own, thing in zip(bits, things)) % 2 for things in plain_rows(sizes)]
    return (sizes, "".join(map(str, votes)))


def plain_own_bits(vote):
    """By all texts."""
    sizes, _ = vote
    votes = plain_votes(vote)
    for texts in product(*[[text for text in map("".join, product("01", repeat=size))] for size in sizes]):
        sums = {things: sum(int(text[thing]) for text, thing in zip(texts, things)) % 2 for things in votes}
        if sums == votes and all(text[0] == "0" for text in texts[1:]):
            return texts
    return None


def plain_squares(vote):
    """All odd squares, ascending."""
    sizes, _ = vote
    votes = plain_votes(vote)
    found = []
    for one, other in combinations(range(len(sizes)), 2):
        for low, high in product(votes, votes):
            alike = [person for person in range(len(sizes)) if low[person] == high[person]]
            are_two = sorted(alike + [one, other]) == list(range(len(sizes)))
            if are_two and low[one] < high[one] and low[other] < high[other]:
                corners = [
                    things for things in votes
                    if all(things[person] in (low[person], high[person]) for person in range(len(sizes)))
                ]
                if sum(votes[things] for things in corners) in (1, 3):
                    found.append((one, other, low, high[one], high[other]))
    return sorted(found)


class Examples(unittest.TestCase):
    def test_the_example(self):
        self.assertEqual(
            [own_bits(ODD), greatest_lot(ODD), own_bits(MOST), greatest_lot(MOST), vote_of(MOST, (1, 0, 1))],
            [("01", "01"), 2, None, 1, 1],
        )
        square = odd_square(MOST)
        self.assertEqual(
            [square, shows_odd(MOST, square), halves(MOST, square), square_table(MOST, square)],
            [(0, 1, (0, 0, 0), 1, 1), True, ((0, 2), (1,)), ((0, 0), (0, 1))],
        )


class VoteOf(unittest.TestCase):
    def test_all_rows(self):
        chance = random.Random(1)
        for sizes in SIZES:
            vote = some_vote(chance, sizes)
            for things, bit in plain_votes(vote).items():
                self.assertEqual(vote_of(vote, things), bit)
                self.assertIs(type(vote_of(vote, things)), int)

    def test_rows_ascend(self):
        self.assertEqual([vote_of(((2, 3), "010011"), (x, y)) for x in (0, 1) for y in (0, 1, 2)], [0, 1, 0, 0, 1, 1])

    def test_bad_things(self):
        vote = ((2, 3), "010011")
        for things in WRONG_VALUES + WRONG_INTEGERS + [
            (), (0,), (0, 0, 0), [0, 0], "00", (2, 0), (0, 3), (-1, 0), (0, -1), (True, 0), (0, False), ("0", 0),
            (0, None), ((0,), 0), (0, 10 ** 5000), ((0, 0),), (2, 2), (0, nested("list", 199)),
        ]:
            check_error(self, BadThings, vote_of, vote, things)


class OwnBits(unittest.TestCase):
    def check(self, vote):
        told = plain_own_bits(vote)
        self.assertEqual(own_bits(vote), told)
        many = len(vote[0])
        self.assertEqual(greatest_lot(vote), {2: 0, 3: 1, 4: 1, 5: 2}[many] if told is None else many)
        return told

    def test_all_small_votes(self):
        for sizes in ((2, 2), (2, 3), (3, 2), (2, 2, 2)):
            told = [self.check(vote) for vote in votes_of(sizes)]
            # Bits of things but 0, and person 0's of 0, are free.
            self.assertEqual(len(told) - told.count(None), 2 ** (1 + sum(size - 1 for size in sizes)))

    def test_votes_by_chance(self):
        chance = random.Random(2)
        for sizes in SIZES:
            if sum(sizes) < 11:
                self.assertIsNotNone(self.check(sum_vote(chance, sizes)))
                self.check(some_vote(chance, sizes))

    def test_one_bit_spoils_it(self):
        chance = random.Random(3)
        for sizes in SIZES:
            vote = sum_vote(chance, sizes)
            self.assertIsNotNone(own_bits(vote))
            self.assertEqual(greatest_lot(vote), len(sizes))
            at = chance.randrange(len(vote[1]))
            spoiled = (sizes, vote[1][:at] + str(1 - int(vote[1][at])) + vote[1][at + 1:])
            self.assertIsNone(own_bits(spoiled))
            self.assertEqual(greatest_lot(spoiled), (len(sizes) - 1) // 2)

    def test_by_hand(self):
        self.assertEqual(own_bits(((2, 2), "1111")), ("11", "00"))
        self.assertEqual(own_bits(((3, 2), "100110")), ("101", "01"))
        self.assertEqual(own_bits(((2, 2, 2), "01101001")), ("01", "01", "01"))


class OddSquares(unittest.TestCase):
    def check(self, vote):
        squares = plain_squares(vote)
        self.assertEqual(odd_square(vote), squares[0] if squares else None)
        self.assertIs(odd_square(vote) is None, own_bits(vote) is not None)
        for square in squares:
            self.assertIs(shows_odd(vote, square), True)
        return squares

    def test_all_small_votes(self):
        for sizes in ((2, 2), (2, 3), (3, 2), (2, 2, 2)):
            for vote in votes_of(sizes):
                self.check(vote)

    def test_votes_by_chance(self):
        chance = random.Random(4)
        for sizes in SIZES:
            if len(plain_rows(sizes)) <= 54:
                self.check(some_vote(chance, sizes))
                self.assertEqual(self.check(sum_vote(chance, sizes)), [])

    def test_greatest_votes(self):
        chance = random.Random(5)
        for sizes in ((3, 3, 3, 3, 3), (2, 3, 3, 3, 3), (3, 3, 3, 3, 2)):
            vote = sum_vote(chance, sizes)
            self.assertIsNone(odd_square(vote))
            spoiled = (sizes, vote[1][:-1] + str(1 - int(vote[1][-1])))
            high = tuple(size - 1 for size in sizes)
            self.assertEqual(odd_square(spoiled), (0, 1, (0, 0) + high[2:], high[0], high[1]))

    def test_all_that_may_be_a_square(self):
        chance = random.Random(6)
        for sizes in ((2, 2), (3, 2), (2, 3), (2, 2, 2), (3, 3)):
            for vote in [some_vote(chance, sizes) for _ in range(3)] + [sum_vote(chance, sizes)]:
                squares = plain_squares(vote)
                people, some = range(-1, len(sizes) + 1), range(-1, 4)
                for one, other, a, b in product(people, people, some, some):
                    for things in plain_rows(sizes) + [sizes, (-1,) * len(sizes), (0,), (0,) * 4]:
                        value = (one, other, things, a, b)
                        self.assertIs(shows_odd(vote, value), value in squares)

    def test_any_value(self):
        square = (0, 1, (0, 0, 0), 1, 1)
        wrong = WRONG_VALUES + WRONG_INTEGERS + [
            (), square[:-1], square + (0,), list(square), str(square), (square,), {square: 1}, square[::-1],
            (False, 1, (0, 0, 0), 1, 1), (0, True, (0, 0, 0), 1, 1), (0, 1, (False, 0, 0), 1, 1),
            (0, 1, (0, 0, 0), True, 1), (0, 1, (0, 0, 0), 1, True), (0, 1, [0, 0, 0], 1, 1), (0, 1, "000", 1, 1),
            (1, 0, (0, 0, 0), 1, 1), (0, 0, (0, 0, 0), 1, 1), (0, 1, (0, 0, 0), 0, 1), (0, 1, (0, 0, 0), 1, 0),
            (0, 1, (1, 0, 0), 0, 1), (0, 1, (1, 0, 0), 1, 1), (0, 1, (0, 0, 0), 2, 1), (0, 1, (0, 0, 0), 1, 2),
            (0, 3, (0, 0, 0), 1, 1), (-1, 1, (0, 0, 0), 1, 1), (0, -1, (0, 0, 0), 1, 1), (0, 1, (0, 0), 1, 1),
            (0, 1, (0, 0, 0, 0), 1, 1), (0, 1, (0, 0, 2), 1, 1), (None, 1, (0, 0, 0), 1, 1),
        ]
        for k in range(5):
            others = [value for value in WRONG_VALUES + WRONG_INTEGERS if value != square[k]]
            wrong += [square[:k] + (value,) + square[k + 1:] for value in others]
        self.assertIs(shows_odd(MOST, square), True)
        for value in wrong:
            self.assertIs(shows_odd(MOST, value), False)
            check_error(self, BadSquare, halves, MOST, value)
            check_error(self, BadSquare, square_table, MOST, value)

    def test_an_even_square_is_no_odd_one(self):
        even = (0, 1, (0, 0), 1, 1)
        self.assertIs(shows_odd(ODD, even), False)
        check_error(self, BadSquare, halves, ODD, even)
        check_error(self, BadSquare, square_table, ODD, even)


class Halves(unittest.TestCase):
    def test_by_hand(self):
        for many, one, other, first in (
            (2, 0, 1, (0,)), (3, 0, 1, (0, 2)), (3, 0, 2, (0, 1)), (3, 1, 2, (0, 1)), (4, 0, 1, (0, 2)),
            (4, 0, 3, (0, 1)), (4, 2, 3, (0, 2)), (4, 1, 2, (0, 1)), (5, 0, 1, (0, 2, 3)), (5, 3, 4, (0, 1, 3)),
            (5, 1, 2, (0, 1, 3)), (5, 0, 4, (0, 1, 2)), (5, 2, 3, (0, 1, 2)),
        ):
            # The vote is 1 if both hold 1.
            sizes = (2,) * many
            bits = "".join(str(things[one] * things[other]) for things in plain_rows(sizes))
            square = (one, other, (0,) * many, 1, 1)
            self.assertEqual(odd_square((sizes, bits)), square)
            second = tuple(person for person in range(many) if person not in first)
            self.assertEqual(halves((sizes, bits), square), (first, second))

    def test_by_chance(self):
        chance = random.Random(7)
        for sizes in SIZES:
            vote = some_vote(chance, sizes)
            if len(plain_rows(sizes)) <= 54:
                for square in plain_squares(vote)[::7]:
                    self.check(vote, square)

    def check(self, vote, square):
        one, other, things, a, b = square
        first, second = halves(vote, square)
        people = range(len(vote[0]))
        self.assertEqual(sorted(first + second), list(people))
        self.assertEqual((first, second), (tuple(sorted(first)), tuple(sorted(second))))
        self.assertEqual(len(first), len(people) - len(people) // 2)
        self.assertTrue(one in first and other in second)
        besides = [person for person in first if person != one]
        self.assertEqual(besides, [person for person in people if person not in (one, other)][:len(besides)])
        table = square_table(vote, square)
        votes = plain_votes(vote)

        def at(own, others):
            return votes[tuple({one: own, other: others}.get(person, things[person]) for person in people)]

        self.assertEqual(table, (
            (at(things[one], things[other]), at(things[one], b)), (at(a, things[other]), at(a, b)),
        ))
        self.assertIs(is_table(table), True)
        self.assertIs(is_knotted(table, ((0, 1), (0, 1))), True)


class WrongVotes(unittest.TestCase):
    def test_bad_vote(self):
        wrong = [(value, BadVote) for value in WRONG_VOTES]
        for call in ALL:
            good = BEHIND.get(call, [])
            check_order(self, call, [MOST, *good], [wrong])

    def test_bounds(self):
        for many in range(0, 8):
            for size in (1, 2, 3, 4):
                vote = ((size,) * many, "0" * size ** many)
                right = 2 <= many <= 5 and 2 <= size <= 3
                self.assertIs(error_of(own_bits, vote) is None, right)


if __name__ == "__main__":
    unittest.main()
