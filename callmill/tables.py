"""Tables: for each standing of a machine a room, with a row for each event."""

from callmill.machines import Machine, standings


def table_of(machine, events):
    """The table of the machine by these events."""
    found = standings(machine, events)
    numbers = dict([(each[0], number) for number, each in enumerate(found)])
    rooms = [(ended, rows_at(machine, standing, events, numbers)) for standing, ended in found]
    return (list(events), list(machine.begin()[0]), rooms)


def rows_at(machine, standing, events, numbers):
    """What the machine does from this standing at each event; numbers has the room of each standing."""
    rows = []
    for event in events:
        told = machine.step(standing, event)
        rows.append((list(told[0]), numbers[told[1]]))
    return rows


def table_paper(machine, events):
    """The paper of the machine and its table's: each standing and its room's number."""
    return [(each[0], number) for number, each in enumerate(standings(machine, events))]


def room_with(room, numbers):
    """A room that does what this one does, with other next rooms: for each the number that stands at its place."""
    return (room[0], [(list(said), numbers[way]) for said, way in room[1]])


def places_by(events):
    """For each event its place in the list, and for each kind the place of its last one."""
    places = {}
    for place, event in enumerate(events):
        places[event] = place
        places[event[0]] = place
    return places


def place_of(places, event):
    """The place of the event that this one is taken as."""
    if event in places:
        return places[event]
    # Quiet stands ahead of all others in each list of events.
    return places.get(event[0], 0)


class TableMachine(Machine):
    """The table's machine; it stands at rooms' numbers."""

    def __init__(self, table):
        self.places = places_by(table[0])
        self.saying = list(table[1])
        same = list(range(len(table[2])))
        self.rooms = [room_with(room, same) for room in table[2]]

    def begin(self):
        """Stands in the first room."""
        return (list(self.saying), 0)

    def step(self, standing, event):
        """Goes by the row of the event."""
        row = self.rooms[standing][1][place_of(self.places, event)]
        return (list(row[0]), row[1])

    def over(self, standing):
        """Whether the room is over."""
        return self.rooms[standing][0]

    def values(self, standing):
        """A table has no boxes."""
        return ()
