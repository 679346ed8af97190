"""The pass that leaves out the nodes that no way leads to."""

from callmill.graphs import next_ones, renumbered


def cut(graph):
    """The graph of the nodes that ways from the first one lead to, numbered as they are found."""
    nodes = graph[1]
    found = found_nodes(nodes, graph[2])
    numbers = dict([(number, place) for place, number in enumerate(found)])
    stands_for = [numbers.get(number) for number in range(len(nodes))]
    return ((list(graph[0]), [renumbered(nodes[number], numbers) for number in found], 0), stands_for)


def found_nodes(nodes, first):
    """The numbers of the nodes that ways from the first one lead to, as they are found."""
    found = [first]
    known = {first: True}
    place = 0
    while place < len(found):
        for number in next_ones(nodes[found[place]]):
            if number not in known:
                known[number] = True
                found.append(number)
        place += 1
    return found
