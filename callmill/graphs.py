"""Graphs, stepped from node to node."""

from callmill.exprs import holds
from callmill.machines import Machine, first_values, said_text, stepped, values_put


def next_ones(node):
    """The numbers of the nodes that the node leads to, as it tells them."""
    kind = node[0]
    if kind == "wait":
        return [way for pattern, way in node[2]] + [node[3]]
    if kind == "test":
        return [node[2], node[3]]
    if kind == "call":
        return [node[1], node[2]]
    if kind == "back" or kind == "stop":
        return []
    return [node[-1]]


class GraphMachine(Machine):
    """The graph's machine; it stands at (node, stack, values, left), at None when it is over."""

    def __init__(self, graph):
        self.boxes = list(graph[0])
        self.nodes = list(graph[1])
        self.first = graph[2]

    def begin(self):
        """Goes from the first node to where it rests."""
        return self.gone_on(self.first, (), first_values(self.boxes))

    def step(self, standing, event):
        """Goes on from a wait by the event."""
        if standing is None:
            return ([], None)
        return stepped(self, self.nodes[standing[0]], standing, event)

    def over(self, standing):
        """Whether the standing is over."""
        return standing is None

    def values(self, standing):
        """The boxes of the standing."""
        if standing is None:
            return ()
        return standing[2]

    def gone_on(self, number, stack, values):
        """What is said from this node on until it rests, and where it stands then."""
        said = []
        while number is not None:
            node = self.nodes[number]
            kind = node[0]
            if kind == "wait":
                return (said, (number, stack, values, node[1]))
            if kind == "say" or kind == "hand":
                said.append(said_text(node))
            if kind == "put":
                values = values_put(self.boxes, values, node[1], node[2])
            number = self.node_behind(node, stack, values)
            stack = self.stack_behind(node, stack)
        return (said, None)

    def node_behind(self, node, stack, values):
        """The number of the node that is gone to, None at the end of all."""
        kind = node[0]
        if kind == "test":
            return node[2] if holds(node[1], self.boxes, values) else node[3]
        if kind == "call":
            return node[1]
        if kind == "stop" or (kind == "back" and len(stack) == 0):
            return None
        if kind == "back":
            return stack[-1]
        return node[-1]

    def stack_behind(self, node, stack):
        """The stack behind the node."""
        # A back that is gone to straight behind a call would only take off what was kept for it.
        if node[0] == "call" and self.nodes[node[2]][0] != "back":
            return stack + (node[2],)
        if node[0] == "back":
            return stack[:-1]
        return stack
