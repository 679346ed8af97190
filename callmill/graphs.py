"""Graphs, stepped from node to node."""

from callmill.exprs import holds
from callmill.machines import Machine, first_values, said_text, stepped, values_put


def next_ones(node):
    """The numbers of the nodes that the node leads to, as it tells them."""
    kind = node[0]
    if kind == "wait":
        return [way for pattern, way in node[2]] + [node[3]]
    if kind == "test":
        return [node[2], node[3]]
    if kind == "call":
        return [node[1], node[2]]
    if kind == "back" or kind == "stop":
        return []
    return [node[-1]]


def renumbered(node, numbers):
    """The node with other next ones: for each the number that stands at its place."""
    kind = node[0]
    if kind == "wait":
        return ("wait", node[1], tuple([(pattern, numbers[way]) for pattern, way in node[2]]), numbers[node[3]])
    if kind == "test":
        return ("test", node[1], numbers[node[2]], numbers[node[3]])
    if kind == "call":
        return ("call", numbers[node[1]], numbers[node[2]])
    if kind == "back" or kind == "stop":
        return node
    return node[:-1] + (numbers[node[-1]],)


def without(graph, ways):
    """A tuple (graph, map): the graph without some nodes.

    For each of these ways has the number of the node that is led to in its place, for the others None.
    """
    kept = [number for number, way in enumerate(ways) if way is None]
    places = dict([(number, place) for place, number in enumerate(kept)])
    stands_for = [places[led_to(ways, number)] for number in range(len(ways))]
    nodes = [renumbered(graph[1][number], stands_for) for number in kept]
    return ((list(graph[0]), nodes, stands_for[graph[2]]), stands_for)


def led_to(ways, number):
    """The node that is come to from this one through those that are left out."""
    while ways[number] is not None:
        number = ways[number]
    return number


class GraphMachine(Machine):
    """The graph's machine; it stands at (node, stack, values, left), at None when it is over."""

    def __init__(self, graph):
        self.boxes = list(graph[0])
        self.nodes = list(graph[1])
        self.first = graph[2]

    def begin(self):
        """Goes from the first node to where it rests."""
        return self.gone_on(self.first, (), first_values(self.boxes))

    def step(self, standing, event):
        """Goes on from a wait by the event."""
        if standing is None:
            return ([], None)
        return stepped(self, self.nodes[standing[0]], standing, event)

    def over(self, standing):
        """Whether the standing is over."""
        return standing is None

    def values(self, standing):
        """The boxes of the standing."""
        if standing is None:
            return ()
        return standing[2]

    def gone_on(self, number, stack, values):
        """What is said from this node on until it rests, and where it stands then."""
        said = []
        kept = list(stack)
        while number is not None:
            node = self.nodes[number]
            kind = node[0]
            if kind == "wait":
                return (said, (number, tuple(kept), values, node[1]))
            if kind == "say" or kind == "hand":
                said.append(said_text(node))
            if kind == "put":
                values = values_put(self.boxes, values, node[1], node[2])
            number = self.node_behind(node, kept, values)
        return (said, None)

    def node_behind(self, node, kept, values):
        """The node that is gone to, None at the end of all; a call adds to what is kept, a back takes off it."""
        kind = node[0]
        if kind == "test":
            return node[2] if holds(node[1], self.boxes, values) else node[3]
        if kind == "call":
            # A back that is gone to straight behind a call would only take off what was kept for it.
            if self.nodes[node[2]][0] != "back":
                kept.append(node[2])
            return node[1]
        if kind == "back" and len(kept) > 0:
            return kept.pop()
        if kind == "back" or kind == "stop":
            return None
        return node[-1]
