"""The errors of the package.

Their fields tell what was wrong; the wording of their messages may change.
"""


class TellError(ValueError):
    """The base class of all errors of the package."""


class BadTable(TellError):
    """A value is no table."""


class BadPart(TellError):
    """A value is no part of the table."""


class BadTalk(TellError):
    """A value is no talk of the table: way leads to the first thing that is wrong."""

    def __init__(self, way):
        super().__init__("what stands behind this way cannot stand in a talk")
        self.way = way


class BadThing(TellError):
    """A value is no thing that left, or right, may hold."""


class NoWay(TellError):
    """A value is no way of the talk."""


class Knotted(TellError):
    """The table cannot be told: part is a knotted part of it."""

    def __init__(self, part):
        super().__init__("a table with a knotted part cannot be told")
        self.part = part


class BadOdds(TellError):
    """A value is no odds of the table."""


class NotPlain(TellError):
    """The talk is not plain."""


class NotRight(TellError):
    """The talk is not right."""


class TooGreat(TellError):
    """A table has more rows or columns than most."""

    def __init__(self, most):
        super().__init__("the table has too many rows or columns")
        self.most = most


class BadLots(TellError):
    """A value is no lots of the table."""


class TooMany(TellError):
    """There are more than most of what is counted."""

    def __init__(self, most):
        super().__init__("there are too many of what is counted")
        self.most = most


class BadNumber(TellError):
    """A value is no number that may stand there."""


class Unlike(TellError):
    """Two things that must be of like size are not."""


class NotText(TellError):
    """A value is no text."""


class InvalidText(TellError):
    """A text is no speech: place is the index of the first sign that cannot stand there."""

    def __init__(self, place):
        super().__init__("the text is no speech from this place on")
        self.place = place


class Twice(TellError):
    """A name is told a second time."""

    def __init__(self, name):
        super().__init__("the name is told a second time")
        self.name = name


class Unknown(TellError):
    """A name is not told ahead."""

    def __init__(self, name):
        super().__init__("the name is not told ahead")
        self.name = name


class NoThing(TellError):
    """The speaker has no such thing."""

    def __init__(self, thing):
        super().__init__("the speaker has no such thing")
        self.thing = thing


class Doubled(TellError):
    """A thing stands in a lot a second time."""

    def __init__(self, thing):
        super().__init__("the thing stands in the lot a second time")
        self.thing = thing


class Lacking(TellError):
    """A thing of the speaker has no weight in these braces."""

    def __init__(self, thing):
        super().__init__("the thing has no weight in these braces")
        self.thing = thing


class Needless(TellError):
    """An else stands for no thing."""


class BadVote(TellError):
    """A value is no vote."""


class BadThings(TellError):
    """A value is no row of things, one for each person."""


class BadLot(TellError):
    """A value is no lot."""


class BadSquare(TellError):
    """A value is no odd square of the vote."""


class BadBits(TellError):
    """A value is no tuple of bits."""


class BadCoins(TellError):
    """A value is no tuple of coins."""


class BadPrime(TellError):
    """A value is none of the primes that are allowed."""


class BadSecret(TellError):
    """A value is no secret number."""


class BadPoints(TellError):
    """A value is no tuple of points."""


class BadSheet(TellError):
    """A value is no sheet: index tells the first row that is none, or is None."""

    def __init__(self, index):
        super().__init__("the sheet is wrong")
        self.index = index


class TooFew(TellError):
    """There are too few people."""


class BadWho(TellError):
    """A value is neither left nor right."""


class NothingSaid(TellError):
    """There is nothing said that could be taken back."""


class InvalidLine(TellError):
    """A text has a wrong line: at is the index of the first line that cannot stand there."""

    def __init__(self, at):
        super().__init__("the line cannot stand there")
        self.at = at
