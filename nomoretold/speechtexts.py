"""The texts of speeches, read word by word to trees, and trees written as texts.

A tree of a speech is (N, M, named, last): named is the list of the pairs of a name and
what it stands for. What stands there, and at last, is ("answer", n), ("name", name) or
("say", who, branches), each branch a pair of a lot and what stands behind it: a lot is
the list of the pairs of a thing and its weight, or None for an else.
"""

from nomoretold.errors import InvalidText, NotText
from nomoretold.kinds import FIGURES, number_told
from nomoretold.tables import MOST_ANSWER, MOST_THINGS
from nomoretold.talks import MOST_BRANCHES, MOST_WEIGHT

MOST_SIGNS = 2000
MOST_DEEP = 30
MOST_LETTERS = 8
MOST_THING = 999
LETTERS = "abcdefghijklmnopqrstuvwxyz"
SPEAKERS = ("left", "right")


class Reader:
    """Goes through the words, numbers and signs of a text, one by one."""

    def __init__(self, text):
        self.words = _words_of(text)
        self.at = 0

    def word(self):
        """What stands here; "" at the end of the text."""
        return self.words[self.at][1]

    def word_behind(self):
        """What stands behind the word here; it isn't asked at the end of the text."""
        return self.words[self.at + 1][1]

    def step(self):
        """Go to the next word."""
        self.at += 1

    def refuse(self):
        """Raise InvalidText: what stands here cannot stand here."""
        raise InvalidText(self.words[self.at][0])

    def take(self, word):
        """Go behind this word, which alone can stand here."""
        if self.word() != word:
            self.refuse()
        self.step()

    def take_number(self, least, most):
        """Go behind a number from least to most, which alone can stand here; the number."""
        number = number_told(self.word(), least, most)
        if number is None:
            self.refuse()
        self.step()
        return number


def _words_of(text):
    """The pairs of a place and the word, number or sign that begins there; "" for the end of the text."""
    found = []
    place = 0
    while place < len(text):
        behind = _place_behind(text, place)
        if text[place] not in " \n":
            found.append((place, text[place:behind]))
        place = behind
    return found + [(len(text), "")]


def _place_behind(text, place):
    """The place behind the word, number or sign that begins at the place."""
    behind = place + 1
    for kind in (LETTERS, FIGURES):
        while text[place] in kind and behind < len(text) and text[behind] in kind:
            behind += 1
    return behind


def _is_name(word):
    """Whether the word is a name."""
    if not 1 <= len(word) <= MOST_LETTERS or word in SPEAKERS or word == "else":
        return False
    return all([sign in LETTERS for sign in word])


def read_speech(text):
    """The tree of a speech; raises NotText or InvalidText for what cannot be read as one."""
    if not isinstance(text, str):
        raise NotText("a speech is a text")
    if len(text) > MOST_SIGNS:
        raise InvalidText(MOST_SIGNS)
    reader = Reader(text)
    reader.take("left")
    lefts = reader.take_number(1, MOST_THINGS)
    reader.take("right")
    rights = reader.take_number(1, MOST_THINGS)
    reader.take(";")
    named = _read_named(reader)
    last = _read_told(reader, 0)
    reader.take("")
    return (lefts, rights, named, last)


def _read_named(reader):
    """The pairs of a name and what it stands for."""
    named = []
    while _is_name(reader.word()) and reader.word_behind() == "=":
        name = reader.word()
        reader.step()
        reader.take("=")
        named.append((name, _read_told(reader, 0)))
        reader.take(";")
    return named


def _read_told(reader, braces):
    """The tree of an answer, a name, or a place that stands within so many braces."""
    word = reader.word()
    if word in SPEAKERS:
        reader.step()
        return ("say", word, _read_branches(reader, braces))
    if _is_name(word):
        reader.step()
        return ("name", word)
    return ("answer", reader.take_number(0, MOST_ANSWER))


def _read_branches(reader, braces):
    """The branches of a place that stands within so many braces."""
    if braces == MOST_DEEP:
        reader.refuse()
    reader.take("{")
    branches = [_read_branch(reader, braces + 1, True)]
    while reader.word() == "|" and len(branches) < MOST_BRANCHES:
        reader.step()
        can_be_else = all([lot is not None for lot, _ in branches])
        branches.append(_read_branch(reader, braces + 1, can_be_else))
    reader.take("}")
    return branches


def _read_branch(reader, braces, can_be_else):
    """A branch that stands within so many braces."""
    lot = _read_lot(reader, can_be_else)
    reader.take(":")
    return (lot, _read_told(reader, braces))


def _read_lot(reader, can_be_else):
    """The pairs of a thing and its weight; None for an else."""
    if can_be_else and reader.word() == "else":
        reader.step()
        return None
    lot = [_read_weight(reader)]
    while reader.word() != ":":
        lot.append(_read_weight(reader))
    return lot


def _read_weight(reader):
    """The pair of a thing and its weight."""
    thing = reader.take_number(0, MOST_THING)
    if reader.word() != "/":
        return (thing, 1)
    reader.step()
    return (thing, reader.take_number(1, MOST_WEIGHT))


def written(tree):
    """The text of a tree, in one form."""
    lefts, rights, named, last = tree
    statements = [f"left {lefts} right {rights};"]
    for name, told in named:
        statements.append(f"{name} = {_written_told(told)};")
    return "\n".join(statements + [_written_told(last)])


def _written_told(told):
    """The text of an answer, a name or a place."""
    if told[0] != "say":
        return str(told[1])
    _, who, branches = told
    texts = [f"{_written_lot(lot)} : {_written_told(behind)}" for lot, behind in branches]
    return who + " { " + " | ".join(texts) + " }"


def _written_lot(lot):
    """The text of a lot."""
    if lot is None:
        return "else"
    return " ".join([str(thing) if weight == 1 else f"{thing}/{weight}" for thing, weight in sorted(lot)])
