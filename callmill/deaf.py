"""The pass that leaves out the boxes that nothing reads."""

from callmill.exprs import names_in
from callmill.graphs import without


def deaf(graph):
    """The graph without the boxes that no expression reads, and without the puts to them."""
    read = names_read(graph[1])
    boxes = [box for box in graph[0] if box[0] in read]
    return without((boxes, graph[1], graph[2]), [deaf_way(node, read) for node in graph[1]])


def names_read(nodes):
    """The names of the boxes that an expression of the nodes reads, each True."""
    read = {}
    for node in nodes:
        for name in names_in_node(node):
            read[name] = True
    return read


def names_in_node(node):
    """The names in the node's expression or condition."""
    if node[0] == "put":
        return names_in(node[2])
    if node[0] == "test":
        return names_in(node[1])
    return []


def deaf_way(node, read):
    """What is behind a put to a box that nothing reads, None of any other node."""
    if node[0] == "put" and node[1] not in read:
        return node[3]
    return None
