"""Scripts made by chance (of a told seed, so the same each time), for tests."""

import random

WORDS = ("a", "yes", "no", "help", "box", "end", "if", "abcdefgh")
NAMES = ("a", "bell", "count", "box", "number", "end")
TALKS = ("main", "sub", "talk", "not", "d")


class Maker:
    """Makes scripts; with_faults lets names, patterns and calls be such as fit nothing."""

    def __init__(self, seed, with_faults=False):
        self.chance = random.Random(seed)
        self.with_faults = with_faults

    def expression(self, depth=2):
        kind = self.chance.choice(("number", "box", "plus", "less") if depth > 0 else ("number", "box"))
        if kind == "box" and self.names:
            return ("box", self.chance.choice(self.names))
        if kind in ("plus", "less"):
            return (kind, self.expression(depth - 1), self.expression(depth - 1))
        return ("number", self.chance.randrange(10))

    def condition(self, depth=2):
        kind = self.chance.choice(("same", "under", "not", "both") if depth > 0 else ("same", "under"))
        if kind == "not":
            return (kind, self.condition(depth - 1))
        if kind == "both":
            return (kind, self.condition(depth - 1), self.condition(depth - 1))
        return (kind, self.expression(1), self.expression(1))

    def wait(self, depth, in_loop):
        limit = self.chance.choice((0, 1, 2, 3))
        patterns = [("key", 0), ("key", 1), ("key", 7), ("word", "yes"), ("word", "other"), ("other",)]
        if limit > 0 or self.with_faults:
            patterns.append(("none",))
        if self.with_faults:
            chosen = [self.chance.choice(patterns) for count in range(self.chance.randrange(5))]
        else:
            chosen = self.chance.sample(patterns, self.chance.randrange(min(5, len(patterns))))
        return ("wait", limit, [(pattern, self.body(depth - 1, in_loop)) for pattern in chosen])

    def kinds(self, depth, in_loop):
        kinds = ["say", "hand", "back", "stop"] + ["say", "hand"] * 2
        if self.names:
            kinds += ["put"] * 4
        if self.calls:
            kinds += ["call"] * 2
        if in_loop or self.with_faults:
            kinds += ["again", "leave"]
        if depth > 0:
            kinds += ["test", "test", "wait", "wait", "wait", "loop"]
        return kinds

    def statement(self, depth, in_loop):
        chance = self.chance
        self.left -= 1
        kind = chance.choice(self.kinds(depth, in_loop))
        if kind == "say":
            return (kind, chance.choice(WORDS))
        if kind == "hand":
            return (kind, chance.randrange(10), chance.choice(WORDS))
        if kind == "put":
            return (kind, chance.choice(self.names), self.expression())
        if kind == "call":
            return (kind, chance.choice(self.calls))
        if kind == "test":
            return (kind, self.condition(), self.body(depth - 1, in_loop), self.body(depth - 1, in_loop))
        if kind == "wait":
            return self.wait(depth, in_loop)
        if kind == "loop":
            return (kind, self.loop_body(depth))
        return (kind,)

    def loop_body(self, depth):
        body = self.body(depth - 1, True)
        if not self.with_faults:
            # Most loops without a wait are dry; a wait somewhere makes most of them sound.
            body.insert(self.chance.randrange(len(body) + 1), self.wait(1, True))
        return body

    def body(self, depth, in_loop):
        found = []
        for count in range(self.chance.randrange(4)):
            if self.left > 0:
                found.append(self.statement(depth, in_loop))
        return found

    def script(self):
        chance = self.chance
        self.left = 40
        names = [chance.choice(NAMES) for count in range(4)] if self.with_faults else list(NAMES)
        boxes = [(name, chance.randrange(2, 6)) for name in names[:chance.randrange(4)]]
        self.names = list(NAMES) if self.with_faults else [name for name, size in boxes]
        count = chance.randrange(5) if self.with_faults else chance.randrange(1, 5)
        called = [chance.choice(TALKS) if self.with_faults else TALKS[place] for place in range(count)]
        talks = []
        for place, name in enumerate(called):
            self.calls = list(TALKS) if self.with_faults else called[place + 1:]
            body = self.body(4, False) + self.body(4, False)
            talks.append((name, body))
        return (boxes, talks)


def chance_events(chance, count):
    """A row of events, quiet ones among them and such as no pattern has."""
    choices = [("quiet",), ("key", 0), ("key", 1), ("key", 7), ("key", 4), ("word", "yes"), ("word", "other"), ("word", "zz")]
    return [chance.choice(choices) for place in range(count)]


def any_events(chance, count):
    """A row of events: all keys, words of patterns and others."""
    words = ("yes", "other", "a", "b", "zz", "quiet", "abcdefgh")
    choices = [("quiet",)] * 3 + [("key", k) for k in range(10)] + [("word", w) for w in words]
    return [chance.choice(choices) for place in range(count)]
