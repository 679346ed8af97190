"""The pass that leaves out the calls behind which there is nothing to do."""

from callmill.graphs import without


def tail(graph):
    """The graph without the calls whose next is a back."""
    nodes = graph[1]
    return without(graph, [tail_way(node, nodes) for node in nodes])


def tail_way(node, nodes):
    """The entry of a call whose next is a back, None of any other node."""
    if node[0] == "call" and nodes[node[2]][0] == "back":
        return node[1]
    return None
