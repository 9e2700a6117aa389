"""What tests of speeches share: speeches by chance, and a plainer way to check texts, sign by sign."""

import re

from nomoretold.errors import Doubled, InvalidText, Lacking, Needless, NoThing, Twice, Unknown

FORMS = re.compile(r"[a-z]+|[0-9]+|[^ \n]")
NUMBER = re.compile(r"0|[1-9][0-9]{0,2}")
NAME = re.compile(r"(?!(left|right|else)\Z)[a-z]{1,8}")


def words_of(text):
    return [(found.start(), found.group()) for found in FORMS.finditer(text)] + [(len(text), "")]


def is_number(word, least, most):
    return bool(NUMBER.fullmatch(word)) and least <= int(word) <= most


class PlainCheck:
    """Reads words from left to right with a pile of open braces, and keeps the first error of meaning."""

    def __init__(self, text):
        self.text, self.things, self.names, self.pile = text, {}, [], []
        self.wrong, self.name, self.held, self.who = None, None, None, None

    def note(self, *told):
        self.wrong = self.wrong or told

    def told(self):
        """None, or the class of the error with its field and value; the class alone for Needless."""
        if len(self.text) > 2000:
            return (InvalidText, "place", 2000)
        state = "left"
        for place, word in words_of(self.text):
            state = getattr(self, "in_" + state)(word)
            if state is None:
                return (InvalidText, "place", place)
        return self.wrong if self.wrong is None or len(self.wrong) > 1 else self.wrong[0]

    def in_left(self, word):
        return "lefts" if word == "left" else None

    def in_lefts(self, word):
        self.things["left"] = word
        return "right" if is_number(word, 1, 6) else None

    def in_right(self, word):
        return "rights" if word == "right" else None

    def in_rights(self, word):
        self.things["right"] = word
        return "head" if is_number(word, 1, 6) else None

    def in_head(self, word):
        self.things = {who: int(number) for who, number in self.things.items()}
        return "statement" if word == ";" else None

    def in_statement(self, word):
        self.held = None
        if NAME.fullmatch(word):
            self.name = word
            return "name"
        return self.in_talk(word)

    def in_name(self, word):
        if word == "=":
            if self.name in self.names:
                self.note(Twice, "name", self.name)
            self.held = self.name
            return "talk"
        if self.name not in self.names:
            self.note(Unknown, "name", self.name)
        return self.in_behind(word)

    def in_talk(self, word):
        if word in ("left", "right"):
            self.who = word
            return "open"
        if NAME.fullmatch(word):
            if word not in self.names:
                self.note(Unknown, "name", word)
            return "behind"
        return "behind" if is_number(word, 0, 99) else None

    def in_open(self, word):
        if word != "{" or len(self.pile) == 30:
            return None
        self.pile.append({"many": self.things[self.who], "else": False, "lots": []})
        return "lot"

    def in_lot(self, word):
        braces = self.pile[-1]
        braces["lots"].append([])
        if word == "else" and not braces["else"]:
            braces["else"] = True
            return "colon"
        return self.in_thing(word)

    def in_thing(self, word):
        if not is_number(word, 0, 999):
            return None
        lot, thing = self.pile[-1]["lots"][-1], int(word)
        if thing >= self.pile[-1]["many"]:
            self.note(NoThing, "thing", thing)
        elif thing in lot:
            self.note(Doubled, "thing", thing)
        lot.append(thing)
        return "weights"

    def in_weights(self, word):
        return "weight" if word == "/" else self.in_things(word)

    def in_weight(self, word):
        return "things" if is_number(word, 1, 999) else None

    def in_things(self, word):
        return "talk" if word == ":" else self.in_thing(word)

    def in_colon(self, word):
        return "talk" if word == ":" else None

    def in_behind(self, word):
        if self.pile:
            if word == "|" and len(self.pile[-1]["lots"]) < 6:
                return "lot"
            return self.close(self.pile.pop()) if word == "}" else None
        if self.held is not None:
            self.names.append(self.held)
            return "statement" if word == ";" else None
        return "done" if word == "" else None

    def close(self, braces):
        told = {thing for lot in braces["lots"] for thing in lot}
        lacking = [thing for thing in range(braces["many"]) if thing not in told]
        if lacking and not braces["else"]:
            self.note(Lacking, "thing", lacking[0])
        if braces["else"] and not lacking:
            self.note(Needless)
        return "behind"


def plain_check(text):
    """The error that check has to raise, as for check_error; None."""
    return PlainCheck(text).told()


def with_blanks(chance, words):
    """A text of the words, parted by some blanks and line ends, where they must be by at least one."""
    text = words[0]
    for word in words[1:]:
        least = 1 if text[-1].isalpha() and word[0].isalpha() or text[-1].isdigit() and word[0].isdigit() else 0
        text += "".join(chance.choice(" \n") for _ in range(chance.randint(least, 2))) + word
    return text


class SomeSpeech:
    """A speech by chance: its words, its printed form and the talk that it tells."""

    def __init__(self, chance, depth, many_names=3):
        self.chance = chance
        self.things = {"left": chance.randint(1, 6), "right": chance.randint(1, 6)}
        self.names = {}
        lefts, rights = str(self.things["left"]), str(self.things["right"])
        self.words = ["left", lefts, "right", rights, ";"]
        self.printed = f"left {lefts} right {rights};\n"
        for _ in range(chance.randint(0, many_names)):
            name = "".join(chance.choice("abelfrightz") for _ in range(chance.randint(1, 8)))
            if name not in self.names and NAME.fullmatch(name):
                words, printed, talk = self.some(depth)
                self.words += [name, "="] + words + [";"]
                self.printed += f"{name} = {printed};\n"
                self.names[name] = talk
        words, printed, talk = self.some(depth)
        self.words += words
        self.printed += printed
        self.triple = (self.things["left"], self.things["right"], talk)

    def text(self):
        return with_blanks(self.chance, self.words)

    def some(self, depth):
        """The words, the printed form and the talk of some T."""
        kind = self.chance.random()
        if self.names and kind < 0.3:
            name = self.chance.choice(sorted(self.names))
            return [name], name, self.names[name]
        if depth == 0 or kind < 0.4:
            answer = self.chance.choice((0, 1, 9, 10, 99, self.chance.randrange(100)))
            return [str(answer)], str(answer), ("answer", answer)
        return self.some_place(depth)

    def some_place(self, depth):
        who = self.chance.choice(("left", "right"))
        many = self.things[who]
        while True:
            lots = [self.some_lot(many) for _ in range(self.chance.randint(1, self.chance.choice((2, 3, 6))))]
            rest = [thing for thing in range(many) if not any(thing in lot for lot in lots)]
            if not rest or len(lots) < 6:
                break
        if rest:
            lots.insert(self.chance.randint(0, len(lots)), None)
        words, texts, branches = [who, "{"], [], []
        for lot in lots:
            told, printed, talk = self.some(depth - 1)
            said, shown = self.lot_words(lot)
            words += said + [":"] + told + ["|"]
            texts.append(f"{shown} : {printed}")
            weights = dict.fromkeys(rest, 1) if lot is None else lot
            branches.append((tuple(weights.get(thing, 0) for thing in range(many)), talk))
        return words[:-1] + ["}"], who + " { " + " | ".join(texts) + " }", ("say", who, tuple(branches))

    def some_lot(self, many):
        """The weights of some things, by the things, in the order in which they are told."""
        things = self.chance.sample(range(many), self.chance.randint(1, many))
        return {thing: self.chance.choice((1, 1, 2, 10, 999)) for thing in things}

    def lot_words(self, lot):
        if lot is None:
            return ["else"], "else"
        words = []
        for thing, weight in lot.items():
            words += [str(thing)]
            if weight > 1 or self.chance.random() < 0.3:
                words += ["/", str(weight)]
        shown = [str(thing) + (f"/{weight}" if weight > 1 else "") for thing, weight in sorted(lot.items())]
        return words, " ".join(shown)
