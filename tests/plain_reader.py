"""Another reader of scripts, by calls within calls and with trying, to set beside the program's."""

import re

WORD = re.compile("[a-z]{1,8}")
FIGURE = re.compile("[0-9]")


class Refused(Exception):
    pass


def a_name(word):
    return WORD.fullmatch(word) is not None and word not in ("not", "and")


def expressions(words, place):
    """All tuples (expression, place behind it) that can be read from this place on."""
    if place >= len(words):
        return
    word = words[place]
    if FIGURE.fullmatch(word):
        yield ("number", int(word)), place + 1
    elif a_name(word):
        yield ("box", word), place + 1
    elif word == "(":
        for one, middle in expressions(words, place + 1):
            if middle < len(words) and words[middle] in ("+", "-"):
                for other, last in expressions(words, middle + 1):
                    if last < len(words) and words[last] == ")":
                        yield ({"+": "plus", "-": "less"}[words[middle]], one, other), last + 1


def conditions(words, place):
    """All tuples (condition, place behind it) that can be read from this place on."""
    if place >= len(words):
        return
    if words[place] == "not":
        for one, last in conditions(words, place + 1):
            yield ("not", one), last
    if words[place] == "(":
        for one, middle in conditions(words, place + 1):
            if middle < len(words) and words[middle] == "and":
                for other, last in conditions(words, middle + 1):
                    if last < len(words) and words[last] == ")":
                        yield ("both", one, other), last + 1
    for one, middle in expressions(words, place):
        if middle < len(words) and words[middle] in ("=", "<"):
            for other, last in expressions(words, middle + 1):
                yield ({"=": "same", "<": "under"}[words[middle]], one, other), last


class PlainReader:
    """Reads a text row by row; row is the one that is looked at, counted from 1."""

    def __init__(self, text):
        self.rows = text.split("\n")
        self.row = 0
        self.on_row()

    def on_row(self):
        """Goes to the next row with words; words is None behind the last one."""
        self.row += 1
        while self.row <= len(self.rows) and self.rows[self.row - 1].strip(" ") == "":
            self.row += 1
        self.words = None
        if self.row <= len(self.rows):
            self.words = re.sub("^ +", "", self.rows[self.row - 1]).split(" ")

    def met(self, *forms):
        """The words behind the first form, where the row has it: a text is a word, a function says whether one fits."""
        if self.words is None or len(self.words) != len(forms):
            return False
        for form, word in zip(forms, self.words):
            if (word != form) if isinstance(form, str) else not form(word):
                return False
        return True

    def whole(self, words, things):
        for thing, last in things(words, 0):
            if last == len(words):
                return thing
        return None

    def script(self):
        boxes, talks = [], []
        while self.met("box", a_name, re.compile("[2-5]").fullmatch):
            boxes.append((self.words[1], int(self.words[2])))
            self.on_row()
        while self.words is not None:
            if not self.met("talk", WORD.fullmatch):
                raise Refused()
            name = self.words[1]
            self.on_row()
            talks.append((name, self.body()))
            self.ended()
        return (boxes, talks)

    def ended(self):
        if not self.met("end"):
            raise Refused()
        self.on_row()

    def body(self):
        found = []
        while True:
            statement = self.statement()
            if statement is None:
                return found
            found.append(statement)

    def statement(self):
        if self.words is None:
            return None
        words = self.words
        if self.met("say", WORD.fullmatch) or self.met("call", WORD.fullmatch):
            self.on_row()
            return tuple(words)
        if self.met("hand", FIGURE.fullmatch, WORD.fullmatch):
            self.on_row()
            return ("hand", int(words[1]), words[2])
        if any(self.met(word) for word in ("again", "leave", "back", "stop")):
            self.on_row()
            return (words[0],)
        if words[0] == "put" and len(words) > 2 and a_name(words[1]):
            expression = self.whole(words[2:], expressions)
            if expression is not None:
                self.on_row()
                return ("put", words[1], expression)
        if words[0] == "if":
            condition = self.whole(words[1:], conditions)
            if condition is not None:
                return self.test(condition)
        if self.met("loop"):
            self.on_row()
            body = self.body()
            self.ended()
            return ("loop", body)
        if self.met("wait", FIGURE.fullmatch):
            return self.wait(int(words[1]))
        return None

    def test(self, condition):
        self.on_row()
        yes, no = self.body(), []
        if self.met("else"):
            self.on_row()
            no = self.body()
        self.ended()
        return ("test", condition, yes, no)

    def wait(self, limit):
        self.on_row()
        branches = []
        while True:
            if self.met("on", "key", FIGURE.fullmatch):
                pattern = ("key", int(self.words[2]))
            elif self.met("on", "word", WORD.fullmatch):
                pattern = ("word", self.words[2])
            elif self.met("on", "other") or self.met("on", "none"):
                pattern = (self.words[1],)
            else:
                self.ended()
                return ("wait", limit, branches)
            self.on_row()
            branches.append((pattern, self.body()))


def read_plainly(text):
    """The script, or the row at which the text is refused."""
    reader = PlainReader(text)
    try:
        return reader.script()
    except Refused:
        return reader.row
