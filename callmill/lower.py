"""Graphs lowered from scripts."""

from callmill.teller import NONE, Teller, place_behind

# Statements that only lead elsewhere, and so are no nodes.
SIGNPOSTS = ("loop", "again", "leave")
BACK = ("back",)


def lowered(script):
    """The graph of a sound script: a node for each statement that does something, and one for the ends of talks."""
    lowering = Lowering(script)
    nodes = [lowering.node_at(place) for place in lowering.places]
    nodes.append(BACK)
    return (list(script[0]), nodes, lowering.number_at((0, 0)))


class Lowering:
    """The places of a script's teller that are nodes, and their numbers."""

    def __init__(self, script):
        self.teller = Teller(script)
        self.places = places_of_nodes(self.teller.bodies)
        self.numbers = dict([(place, number) for number, place in enumerate(self.places)])

    def number_at(self, place):
        """The number of the node that is met from this place on; the last one's at the talk's end."""
        teller = self.teller
        place = teller.settled(place)
        # This comes to an end: a loop that signposts alone go round is dry.
        while place is not None and place not in self.numbers:
            place = teller.settled(teller.way_on(place, teller.statement_at(place), ()))
        if place is None:
            return len(self.places)
        return self.numbers[place]

    def node_at(self, place):
        """The node of the statement at this place."""
        statement = self.teller.statement_at(place)
        kind = statement[0]
        if kind == "wait":
            return self.wait_at(place, statement)
        if kind == "test":
            return ("test", statement[1], self.number_at((statement[2], 0)), self.number_at((statement[3], 0)))
        if kind == "call":
            return ("call", self.number_at((statement[1], 0)), self.number_at(place_behind(place)))
        if kind == "back" or kind == "stop":
            return statement
        return statement + (self.number_at(place_behind(place)),)

    def wait_at(self, place, statement):
        """The node of the wait at this place."""
        limit = statement[1]
        ways = [branch for branch in statement[2] if branch[0] != NONE]
        branches = tuple([(pattern, self.number_at(way)) for pattern, way in ways])
        none = self.numbers[place] if limit == 0 else self.number_at(statement[3])
        return ("wait", limit, branches, none)


def places_of_nodes(bodies):
    """The places of all statements that are nodes, body by body."""
    found = []
    for number, body in enumerate(bodies):
        for index, statement in enumerate(body.statements):
            if statement[0] not in SIGNPOSTS:
                found.append((number, index))
    return found
