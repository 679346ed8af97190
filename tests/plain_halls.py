"""Halls once more, in another way, to set beside the program's; and machines of a hall, written out or made by chance."""

import random
import re
from collections import deque

from callmill.looker import sound
from callmill.machines import Machine, events_of
from callmill.reader import read_script
from callmill.teller import Teller
from chance_scripts import Maker

QUIET = ("quiet",)


class Heard(Machine):
    """Says of each event what it is told to, else the event's own sign; stands at how many turns went by and what was heard.

    It tells the very same list again and again.
    """

    def __init__(self, says=None, begin=(), last=None):
        self.says, self.begun, self.last, self.kept = says or {}, begin, last, []

    def begin(self):
        self.kept[:] = self.begun
        return (self.kept, (0, None))

    def step(self, standing, event):
        if self.over(standing):
            self.kept[:] = []
            return (self.kept, standing)
        self.kept[:] = self.says.get(event, [{"quiet": "silence"}.get(event[0], event[0])])
        return (self.kept, (standing[0] + 1, event))

    def over(self, standing):
        return self.last is not None and standing[0] >= self.last

    def values(self, standing):
        return ()


class PlainHall:
    """A hall that goes from its beginning on."""

    def __init__(self, machines):
        self.machines = machines
        self.rows = [deque() for machine in machines]
        told = [machine.begin() for machine in [Copying(machine) for machine in machines]]
        self.standings = [standing for said, standing in told]
        self.said = [said for said, standing in told]
        self.hand_over()

    def turn(self, outer):
        for row, event in zip(self.rows, outer):
            if event != QUIET:
                self.put(row, event)
        taken = [row.popleft() if row else QUIET for row in self.rows]
        told = [Copying(machine).step(standing, event) for machine, standing, event in zip(self.machines, self.standings, taken)]
        self.standings = [standing for said, standing in told]
        self.said = [said for said, standing in told]
        self.hand_over()

    def hand_over(self):
        for text in [text for said in self.said for text in said]:
            found = re.fullmatch("([0-9]):([a-z]{1,8})", text)
            if found and int(found[1]) in range(len(self.rows)):
                self.put(self.rows[int(found[1])], ("word", found[2]))

    def put(self, row, event):
        row.append(event)
        if len(row) == 4:
            row.pop()

    def standing(self):
        return tuple((standing, tuple(row)) for standing, row in zip(self.standings, self.rows))


class Copying:
    """A machine whose sayings are copied at once."""

    def __init__(self, machine):
        self.machine = machine

    def begin(self):
        said, standing = self.machine.begin()
        return list(said), standing

    def step(self, standing, event):
        said, standing = self.machine.step(standing, event)
        return list(said), standing


def teller(*rows):
    """The teller of a script of one talk with these rows, or of boxes and talks where a row begins with talk."""
    text = "\n".join(rows)
    if "talk " not in text:
        text = "talk main\n" + text + "\nend"
    script = read_script(text)
    assert sound(script), text
    return Teller(script)


def chance_machines(maker, chance, count, wrapped=lambda script: Teller(script)):
    """Machines of scripts made by chance, which hand words to one another."""
    found = []
    while len(found) < count:
        script = maker.script()
        if not sound(script):
            continue
        script = (script[0], [(name, near(chance, body)) for name, body in script[1]])
        # Most that say nothing ever are left out.
        if len(events_of(script)) > 3 or chance.random() < 0.1:
            found.append(wrapped(script))
    return found


def near(chance, body):
    """The body with hand-overs to lines near by, of words that are waited for."""
    found = []
    for statement in body:
        if statement[0] == "hand":
            statement = ("hand", chance.choice((0, 0, 1, 1, 2, 3, 5)), chance.choice(("yes", "other", "no")))
        elif statement[0] == "test":
            statement = (*statement[:2], near(chance, statement[2]), near(chance, statement[3]))
        elif statement[0] == "wait":
            statement = (*statement[:2], [(pattern, near(chance, inner)) for pattern, inner in statement[2]])
        elif statement[0] == "loop":
            statement = ("loop", near(chance, statement[1]))
        found.append(statement)
    return found


def chance_outer(chance, lines):
    """Outer events, one for each line."""
    return [chance.choice([QUIET, QUIET, ("key", 0), ("key", 1), ("key", 7), ("key", 4)]) for line in range(lines)]


def makers(seed):
    return Maker(seed), random.Random(seed)
