"""The pass that leaves out the nodes that no way leads to."""

from callmill.graphs import next_ones, renumbered


def cut(graph):
    """The graph of the nodes that ways from the first one lead to, numbered as they are found."""
    nodes = graph[1]
    found = found_from([next_ones(node) for node in nodes], graph[2])
    numbers = dict([(number, place) for place, number in enumerate(found)])
    stands_for = [numbers.get(number) for number in range(len(nodes))]
    return ((list(graph[0]), [renumbered(nodes[number], numbers) for number in found], 0), stands_for)


def found_from(ways, first):
    """The first thing and all that ways from it lead to, as they are found; ways has what each thing leads to."""
    found = [first]
    known = {first: True}
    place = 0
    while place < len(found):
        for thing in ways[found[place]]:
            if thing not in known:
                known[thing] = True
                found.append(thing)
        place += 1
    return found
