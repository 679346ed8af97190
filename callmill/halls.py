"""Halls: machines that hand words to one another."""

from callmill.machines import QUIET

MOST_WAITING = 3


class Hall:
    """Lines, each a machine; the hall stands at tuples (standing, row of events that wait), line by line."""

    def __init__(self, machines):
        self.lines = list(machines)
        # The hall goes by a list of its own: what is done to the one that it tells changes nothing.
        self.machines = list(machines)

    def begin(self):
        """All lines' beginnings, and what they hand over there."""
        told = []
        for machine in self.machines:
            told.append(copied(machine.begin()))
        return settled_turn(told, [() for machine in self.machines])

    def step(self, standing, outer):
        """A turn by these outer events, one for each line."""
        told = []
        rows = []
        for machine, line, event in zip(self.machines, standing, outer):
            row = line[1] if event == QUIET else put_behind(line[1], event)
            told.append(copied(machine.step(line[0], row[0] if len(row) > 0 else QUIET)))
            rows.append(row[1:])
        return settled_turn(told, rows)

    def ended_lines(self, standing):
        """For each line whether it is over."""
        return [machine.over(line[0]) for machine, line in zip(self.machines, standing)]


def copied(told):
    """What a machine told, with a list of its own: another one's making may tell the very list again."""
    return (list(told[0]), told[1])


def put_behind(row, event):
    """The row with the event behind it, where it isn't full."""
    if len(row) < MOST_WAITING:
        return row + (event,)
    return row


def settled_turn(told, rows):
    """A tuple (said, standing) of what the lines told and of their rows, when all that was handed over is put in."""
    rows = list(rows)
    said = [each[0] for each in told]
    for texts in said:
        for text in texts:
            handed = text.partition(":")
            if handed[1] != "" and int(handed[0]) < len(rows):
                line = int(handed[0])
                rows[line] = put_behind(rows[line], ("word", handed[2]))
    return (said, tuple([(each[1], row) for each, row in zip(told, rows)]))
