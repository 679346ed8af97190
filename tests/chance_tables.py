"""Tables made by chance (of a told seed, so the same each time), for tests: rooms alike, over, and come to by no way."""

import random

WORDS = ("a", "b", "no", "yes", "abcdefgh")
SAYINGS = ((), (), ("a",), ("b",), ("a", "b"), ("b", "a"), ("3:yes",))


class TableMaker:
    def __init__(self, seed):
        self.chance = random.Random(seed)

    def events(self):
        chance = self.chance
        keys = chance.sample(range(10), chance.choice((0, 1, 2, 2, 10)))
        words = chance.sample(WORDS, chance.choice((0, 1, 2)))
        return [("quiet",)] + [("key", k) for k in keys] + [("word", w) for w in words]

    def small(self, count, events):
        """Rooms of which few do alike."""
        chance = self.chance
        sayings = chance.sample(SAYINGS, 3)
        rooms = []
        for number in range(count):
            if chance.random() < 0.15:
                rooms.append((True, [((), number)] * len(events)))
            else:
                ways = [number, chance.randrange(count), chance.randrange(count), (number + 1) % count]
                rooms.append((False, [(chance.choice(sayings), chance.choice(ways)) for event in events]))
        return rooms

    def blown_up(self, rooms):
        """Each room several times, and ways that lead to one of them; some rooms that no way leads to."""
        chance = self.chance
        numbers = [number for number in range(len(rooms)) for count in range(chance.choice((1, 1, 2, 3)))]
        chance.shuffle(numbers)
        first = numbers.index(0)
        numbers[0], numbers[first] = numbers[first], numbers[0]
        led = [number for number in range(len(numbers)) if chance.random() < 0.8]
        blown = []
        for place, number in enumerate(numbers):
            over, rows = rooms[number]
            if over:
                blown.append((True, [([], place) for row in rows]))
                continue
            copies = [[p for p in led if numbers[p] == way] or [numbers.index(way)] for said, way in rows]
            blown.append((False, [(list(said), chance.choice(ways)) for (said, way), ways in zip(rows, copies)]))
        return blown

    def table(self, most=6):
        events = self.events()
        rooms = self.blown_up(self.small(self.chance.randrange(1, most + 1), events))
        return (events, list(self.chance.choice(SAYINGS)), rooms)


def loose_pack(chance, table):
    """A whole pack of the table that is not the shortest: in another order, with things twice and such as nothing has."""
    events, saying, rooms = table
    said = [tuple(saying)] + [tuple(texts) for over, rows in rooms for texts, way in rows]
    texts = sorted({text for each in said for text in each} | set(chance.sample(("aa", "unsaid", "zz", "0:a"), 2)))
    sayings = list(dict.fromkeys(said))
    sayings += chance.choices(sayings, k=2) + [tuple(chance.choices(texts, k=chance.randrange(4)))]
    chance.shuffle(sayings)

    def number(each):
        return chance.choice([place for place, other in enumerate(sayings) if other == tuple(each)])

    shapes = list(dict.fromkeys(tuple((tuple(texts), way) for texts, way in rows) for over, rows in rooms))
    shapes += chance.choices(shapes, k=chance.randrange(3))
    for count in range(chance.randrange(3)):
        shapes.append(tuple((chance.choice(sayings), chance.randrange(len(rooms))) for event in events))
    chance.shuffle(shapes)
    cells = [len(rooms), len(sayings), len(shapes), number(saying)]
    for over, rows in rooms:
        row = tuple((tuple(texts), way) for texts, way in rows)
        cells.append(2 * chance.choice([place for place, shape in enumerate(shapes) if shape == row]) + over)
    for shape in shapes:
        common = chance.choice(list(shape) + [(chance.choice(sayings), chance.randrange(len(rooms)))])
        inner = [number(common[0]), common[1]]
        for place, pair in enumerate(shape):
            if pair != common or chance.random() < 0.3:
                inner += [place, number(pair[0]), pair[1]]
        cells += [len(inner), *inner]
    for each in sayings:
        cells += [len(each), *[texts.index(text) for text in each]]
    return (list(events), texts, cells)
