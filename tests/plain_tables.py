"""Tables, parting rows, least tables and packs once more, in another way, to set beside the program's."""

import itertools


def plain_table(machine, events):
    """Points 18 and 31, standing by standing."""
    order = [machine.begin()[1]]
    for standing in order:
        for event in events:
            if machine.step(standing, event)[1] not in order:
                order.append(machine.step(standing, event)[1])
    rooms = []
    for standing in order:
        rows = []
        for event in events:
            said, behind = machine.step(standing, event)
            rows.append((list(said), order.index(behind)))
        rooms.append((machine.over(standing), rows))
    return (list(events), list(machine.begin()[0]), rooms), order


def part_by(table, room, other, row):
    """Point 33: whether the rooms part by this row of events' places."""
    rooms = table[2]
    if len(row) == 0:
        return rooms[room][0] is not rooms[other][0]
    said = said_beside = None
    for place in row:
        said, room = rooms[room][1][place]
        said_beside, other = rooms[other][1][place]
    return said != said_beside or rooms[room][0] is not rooms[other][0]


def plain_parting(table, room, other, longest):
    """The first of the shortest parting rows, all rows up to this length being gone through."""
    for length in range(longest + 1):
        for row in itertools.product(range(len(table[0])), repeat=length):
            if part_by(table, room, other, row):
                return [table[0][place] for place in row]
    return None


def unparted(table):
    """All pairs of rooms that part by no row: those that part are taken away until none does."""
    rooms = table[2]
    count = range(len(rooms))
    pairs = {(a, b) for a in count for b in count
             if rooms[a][0] is rooms[b][0] and [said for said, way in rooms[a][1]] == [said for said, way in rooms[b][1]]}
    while True:
        left = {(a, b) for a, b in pairs
                if all((x[1], y[1]) in pairs for x, y in zip(rooms[a][1], rooms[b][1]))}
        if left == pairs:
            return pairs
        pairs = left


def plain_least(table):
    """Point 34, over the sets of rooms."""
    events, saying, rooms = table
    pairs = unparted(table)
    sets = [frozenset(b for b in range(len(rooms)) if (a, b) in pairs) for a in range(len(rooms))]
    order = [sets[0]]
    come_to = [0]
    for room in come_to:
        for said, way in rooms[room][1]:
            if way not in come_to:
                come_to.append(way)
    for each in order:
        for place in range(len(events)):
            behind = {sets[rooms[room][1][place][1]] for room in each}
            assert len(behind) == 1
            if not behind <= set(order):
                order.extend(behind)
    least = []
    for each in order:
        over, rows = rooms[min(each)]
        least.append((over, [(list(said), order.index(sets[way])) for said, way in rows]))
    numbers = [order.index(sets[room]) if room in come_to else None for room in range(len(rooms))]
    return (list(events), list(saying), least), numbers


def first_met(things):
    return list(dict.fromkeys(things))


def plain_pack(table):
    """Points 36 and 37."""
    events, saying, rooms = table
    said = first_met([tuple(saying)] + [tuple(texts) for over, rows in rooms for texts, way in rows])
    texts = sorted({text for each in said for text in each})
    shapes = first_met(tuple((tuple(texts), way) for texts, way in rows) for over, rows in rooms)
    cells = [len(rooms), len(said), len(shapes), said.index(tuple(saying))]
    for over, rows in rooms:
        cells.append(2 * shapes.index(tuple((tuple(texts), way) for texts, way in rows)) + int(over))
    for shape in shapes:
        common = sorted(first_met(shape), key=lambda pair: -shape.count(pair))[0]
        inner = [said.index(common[0]), common[1]]
        for place, (texts_said, way) in enumerate(shape):
            if (texts_said, way) != common:
                inner += [place, said.index(texts_said), way]
        cells += [len(inner), *inner]
    for each in said:
        cells += [len(each), *[texts.index(text) for text in each]]
    return (list(events), texts, cells)


class NotWhole(Exception):
    pass


class Cells:
    """Cells that are taken one by one."""

    def __init__(self, cells):
        self.left = list(reversed(cells))

    def take(self):
        if not self.left or self.left[-1] < 0:
            raise NotWhole
        return self.left.pop()

    def place(self, count):
        number = self.take()
        if number >= count:
            raise NotWhole
        return number


def plain_unpacked(events, texts, cells):
    """Point 38: the table, None where the cells are not whole."""
    try:
        return taken_apart(events, texts, Cells(cells))
    except NotWhole:
        return None


def taken_apart(events, texts, cells):
    rooms, sayings, shapes = cells.take(), cells.take(), cells.take()
    if not 1 <= rooms <= 2000:
        raise NotWhole
    begun = cells.place(sayings)
    heads = [divmod(cells.place(2 * shapes), 2) for room in range(rooms)]
    rows = []
    while len(rows) < shapes:
        length = cells.take()
        if length < 2 or length % 3 != 2 or length > len(cells.left):
            raise NotWhole
        common = (cells.place(sayings), cells.place(rooms))
        ways, last = {}, -1
        for count in range(length // 3):
            place = cells.place(len(events))
            if place <= last:
                raise NotWhole
            last = place
            ways[place] = (cells.place(sayings), cells.place(rooms))
        rows.append([ways.get(place, common) for place in range(len(events))])
    said = []
    while len(said) < sayings:
        length = cells.take()
        if length > len(cells.left):
            raise NotWhole
        said.append([texts[cells.place(len(texts))] for count in range(length)])
    if cells.left:
        raise NotWhole
    told = []
    for number, (shape, over) in enumerate(heads):
        if over and any(said[saying] != [] or way != number for saying, way in rows[shape]):
            raise NotWhole
        told.append((over == 1, [(list(said[saying]), way) for saying, way in rows[shape]]))
    return (list(events), list(said[begun]), told)
