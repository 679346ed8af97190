"""Graphs made by chance (of a told seed, so the same each time), for tests; none goes on for ever within a turn."""

import random

BOXES = (("a", 2), ("bell", 3), ("c", 2))
PATTERNS = (("key", 0), ("key", 1), ("word", "yes"), ("other",))


class GraphMaker:
    """Makes graphs in which much is known, deaf, called last, alike or never come to."""

    def __init__(self, seed):
        self.chance = random.Random(seed)

    def expression(self, depth=2):
        kind = self.chance.choice(("number", "number", "box", "plus", "less") if depth > 0 else ("number", "box"))
        if kind == "box" and self.read:
            return ("box", self.chance.choice(self.read))
        if kind in ("plus", "less"):
            return (kind, self.expression(depth - 1), self.expression(depth - 1))
        return ("number", self.chance.choice((0, 1, 2, 9)))

    def condition(self, depth=2):
        kind = self.chance.choice(("same", "under", "not", "both") if depth > 0 else ("same", "under"))
        if kind == "not":
            return (kind, self.condition(depth - 1))
        if kind == "both":
            return (kind, self.condition(depth - 1), self.condition(depth - 1))
        return (kind, self.expression(1), self.expression(1))

    def node(self, kind, number, ways, entries):
        """A node of this kind that leads to some of these ways, a call to one of these entries; number is its own."""
        chance = self.chance
        way = chance.choice(ways) if ways else None
        if kind == "say":
            return (kind, chance.choice("ab"), way)
        if kind == "hand":
            return (kind, chance.randrange(2), chance.choice("ab"), way)
        if kind == "put":
            return (kind, chance.choice(self.boxes)[0], self.expression(), way)
        if kind == "test":
            return (kind, self.condition(), way, chance.choice(ways))
        if kind == "call":
            return (kind, chance.choice(entries), way)
        if kind == "wait":
            limit = chance.randrange(3)
            patterns = chance.sample(PATTERNS, chance.randrange(1, 4))
            branches = tuple((pattern, chance.choice(ways)) for pattern in patterns)
            return (kind, limit, branches, number if limit == 0 else way)
        return (kind,)

    def kinds(self, count, with_calls):
        """The kinds of some nodes; the last ones lead nowhere, or are waits."""
        moving = ["say", "say", "hand", "test"] + ["put"] * 3 * bool(self.boxes) + ["call"] * 3 * with_calls
        kinds = [self.chance.choice(moving + ["wait"] * 4) for place in range(count)]
        ends = min(count, self.chance.randrange(1, 3))
        kinds[-ends:] = [self.chance.choice(("wait", "back", "back", "stop")) for place in range(ends)]
        return kinds

    def graph(self):
        """A graph in parts, whose calls lead to later parts alone or, in some graphs, anywhere."""
        chance = self.chance
        self.boxes = list(BOXES[:chance.randrange(4)])
        self.read = [name for name, size in self.boxes if chance.random() < 0.6]
        anywhere = chance.random() < 0.2
        parts = chance.randrange(1, 4)
        kinds, ends = [], [0]
        for part in range(parts):
            kinds += self.kinds(chance.randrange(1, 13), anywhere or part < parts - 1)
            ends.append(len(kinds))
        numbers = chance.sample(range(len(kinds)), len(kinds))
        nodes = [None] * len(kinds)
        for part in range(parts):
            within = range(ends[part], ends[part + 1])
            for place in within:
                # Ways to nodes behind it and to waits alone: so none goes round without a wait.
                ways = [other for other in within
                        if other > place or kinds[other] == "wait" or kinds[place] == "wait"]
                entries = [other for other in range(len(kinds))
                           if other >= ends[part + 1] or (anywhere and kinds[other] == "wait")] or ways
                chosen = [[numbers[other] for other in each] for each in (ways, entries)]
                nodes[numbers[place]] = self.node(kinds[place], numbers[place], *chosen)
        return (self.boxes, nodes, numbers[0])
