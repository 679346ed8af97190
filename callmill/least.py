"""Rooms that part, and the least table that does the same."""

from callmill.cut import found_from
from callmill.papers import row_by
from callmill.share import firsts, put_together
from callmill.tables import room_with


def parting(table, room, other):
    """The first of the shortest rows of events by which the two rooms part, None where there is none."""
    rooms = table[2]
    if rooms[room][0] != rooms[other][0]:
        return []
    together = Together()
    together.unite(room, other)
    found = [(room, other)]
    ways = {(room, other): None}
    place = 0
    while place < len(found):
        pair = found[place]
        for event, row, beside in zip(table[0], rooms[pair[0]][1], rooms[pair[1]][1]):
            if row[0] != beside[0] or rooms[row[1]][0] != rooms[beside[1]][0]:
                return row_by(ways, (pair, event))
            # Where two rooms part, so do some two by which they were put together, by a row as short and found earlier.
            if together.unite(row[1], beside[1]):
                ways[(row[1], beside[1])] = (pair, event)
                found.append((row[1], beside[1]))
        place += 1
    return None


class Together:
    """Rooms put together two by two; those of one set come to the same head."""

    def __init__(self):
        self.heads = {}

    def unite(self, room, other):
        """Puts both into one set; True where they were in two."""
        head = self.head_of(room)
        head_beside = self.head_of(other)
        if head == head_beside:
            return False
        self.heads[head] = head_beside
        return True

    def head_of(self, room):
        """The head of the room's set."""
        gone = []
        while room in self.heads:
            gone.append(room)
            room = self.heads[room]
        # All that were gone through lead straight there from now on, so that no way becomes long.
        for each in gone:
            self.heads[each] = room
        return room


def least_table(table):
    """A tuple (table, list): the table with fewest rooms that does the same, and which of them each old room is in."""
    rooms = table[2]
    ways = [[row[1] for row in room[1]] for room in rooms]
    found = found_from(ways, 0)
    places = dict([(room, place) for place, room in enumerate(found)])
    groups = put_together(
        [label_of(rooms[room]) for room in found], [[places[way] for way in ways[room]] for room in found])
    numbers = [groups[places[room]] if room in places else None for room in range(len(rooms))]
    least = [room_with(rooms[found[place]], numbers) for place in firsts(groups)]
    return ((list(table[0]), list(table[1]), least), numbers)


def label_of(room):
    """What parts the room from others by a row of at most one event, but for where that leads."""
    return (room[0], tuple([tuple(said) for said, way in room[1]]))


def least_paper(table):
    """The paper of the table's machine and its least one's."""
    return [(room, number) for room, number in enumerate(least_table(table)[1]) if number is not None]
