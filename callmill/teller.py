"""Scripts, stepped as they stand."""

from callmill.bodies import bodies_of
from callmill.exprs import holds
from callmill.machines import Machine, first_values, said_text, stepped, values_put, way_of_pattern

NONE = ("none",)


class KeptBody:
    """A body as the teller keeps it: whether it is a loop's, the place behind what it stands in, its statements."""

    def __init__(self, loops, behind):
        self.loops = loops
        self.behind = behind
        self.statements = []


def kept_bodies(talks):
    """The bodies of all talks and of all that stands in them, numbered: first the talks' own, in their order."""
    names = [talk[0] for talk in talks]
    bodies = [talk[1] for talk in talks]
    kept = [KeptBody(False, None) for talk in talks]
    number = 0
    while number < len(kept):
        body = bodies[number]
        for place, statement in enumerate(body):
            behind = (number, place + 1)
            kept[number].statements.append(kept_statement(statement, behind, len(kept), names))
            inner = bodies_of(statement)
            bodies.extend(inner)
            kept.extend([KeptBody(statement[0] == "loop", behind) for each in inner])
        number += 1
    return kept


def kept_statement(statement, behind, number, names):
    """The statement with numbers, from this one on, in the place of its bodies and of the talk that it calls."""
    kind = statement[0]
    if kind == "test":
        return ("test", statement[1], number, number + 1)
    if kind == "wait":
        return kept_wait(statement, behind, number)
    if kind == "loop":
        return ("loop", number)
    if kind == "call":
        return ("call", names.index(statement[1]))
    return statement


def kept_wait(statement, behind, number):
    """The wait with the places its branches lead to, and the one gone to when no turn is left."""
    patterns = [pattern for pattern, body in statement[2]]
    branches = tuple([(pattern, (number + place, 0)) for place, pattern in enumerate(patterns)])
    none = way_of_pattern(branches, NONE)
    return ("wait", statement[1], branches, behind if none is None else none)


class Teller(Machine):
    """The script's machine; it stands at (place of a wait, stack, values, left), at None when it is over.

    A place is a tuple (body's number, statement's number); the stack holds the places behind calls.
    """

    def __init__(self, script):
        self.boxes = list(script[0])
        self.bodies = kept_bodies(script[1])

    def begin(self):
        """Goes through the first talk to where it rests."""
        return self.gone_on((0, 0), (), first_values(self.boxes))

    def step(self, standing, event):
        """Goes on from a wait by the event."""
        if standing is None:
            return ([], None)
        return stepped(self, self.statement_at(standing[0]), standing, event)

    def over(self, standing):
        """Whether the standing is over."""
        return standing is None

    def values(self, standing):
        """The boxes of the standing."""
        if standing is None:
            return ()
        return standing[2]

    def statement_at(self, place):
        """The statement at a place."""
        return self.bodies[place[0]].statements[place[1]]

    def settled(self, place):
        """The place of the statement that is met from this place on, None at the talk's end."""
        while place is not None:
            body = self.bodies[place[0]]
            if place[1] < len(body.statements):
                return place
            place = (place[0], 0) if body.loops else body.behind
        return None

    def gone_on(self, place, stack, values):
        """What is said from this place on until it rests, and where it stands then."""
        said = []
        place = self.settled(place)
        while place is not None or len(stack) > 0:
            if place is None:
                place = stack[-1]
                stack = stack[:-1]
            statement = self.statement_at(place)
            kind = statement[0]
            if kind == "wait":
                return (said, (place, stack, values, statement[1]))
            if kind == "stop":
                return (said, None)
            if kind == "say" or kind == "hand":
                said.append(said_text(statement))
            if kind == "put":
                values = values_put(self.boxes, values, statement[1], statement[2])
            if kind == "call":
                stack = self.stack_behind(place, stack)
            place = self.settled(self.way_on(place, statement, values))
        return (said, None)

    def stack_behind(self, place, stack):
        """The stack behind a call at this place."""
        behind = self.settled(place_behind(place))
        # At the talk's end nothing is left to do but what was kept ahead of this call.
        if behind is None:
            return stack
        return stack + (behind,)

    def way_on(self, place, statement, values):
        """The place that is gone to from a statement, None where its talk ends."""
        kind = statement[0]
        if kind == "back":
            return None
        if kind == "test":
            return (statement[2] if holds(statement[1], self.boxes, values) else statement[3], 0)
        if kind == "loop" or kind == "call":
            return (statement[1], 0)
        if kind == "again":
            return (self.loop_around(place), 0)
        if kind == "leave":
            return self.bodies[self.loop_around(place)].behind
        return place_behind(place)

    def loop_around(self, place):
        """The number of the body of the inmost loop around the place."""
        number = place[0]
        while not self.bodies[number].loops:
            number = self.bodies[number].behind[0]
        return number


def place_behind(place):
    """The place behind the statement at this place."""
    return (place[0], place[1] + 1)
