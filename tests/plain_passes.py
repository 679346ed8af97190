"""The passes once more, in another way, to set beside the program's: nodes are named by numbers that stay until the end."""

from collections import deque


def plain_next(node):
    """The places of the node at which numbers of nodes stand, as lists of indexes."""
    if node[0] == "wait":
        return [(2, place, 1) for place in range(len(node[2]))] + [(3,)]
    return [(place,) for place in {"test": (2, 3), "call": (1, 2), "back": (), "stop": ()}.get(node[0], (len(node) - 1,))]


def at(node, path):
    for place in path:
        node = node[place]
    return node


def changed(node, path, number):
    """The node with this number at the path."""
    place, rest = path[0], path[1:]
    return node[:place] + (number if not rest else changed(node[place], rest, number),) + node[place + 1:]


class Plain:
    """A graph whose nodes are taken away one by one."""

    def __init__(self, graph):
        self.boxes, self.first = list(graph[0]), graph[2]
        self.nodes = dict(enumerate(graph[1]))
        self.stand_in = {number: number for number in self.nodes}

    def take_away(self, number, instead):
        """Lets all that led to the node lead to another one."""
        assert number != instead
        del self.nodes[number]
        for other, node in list(self.nodes.items()):
            for path in plain_next(node):
                if at(node, path) == number:
                    node = changed(node, path, instead)
            self.nodes[other] = node
        if self.first == number:
            self.first = instead
        for old, now in self.stand_in.items():
            if now == number:
                self.stand_in[old] = instead

    def told(self, order=None):
        order = sorted(self.nodes) if order is None else order
        numbers = {number: place for place, number in enumerate(order)}
        nodes = []
        for number in order:
            node = self.nodes[number]
            for path in plain_next(node):
                node = changed(node, path, numbers[at(node, path)])
            nodes.append(node)
        return ((self.boxes, nodes, numbers[self.first]), [numbers.get(now) for old, now in sorted(self.stand_in.items())])


def worth_of(expression):
    """The worth of an expression without boxes, else None."""
    if expression[0] == "number":
        return expression[1]
    if expression[0] == "box":
        return None
    sides = [worth_of(side) for side in expression[1:]]
    if None in sides:
        return None
    return sum(sides) if expression[0] == "plus" else sides[0] - sides[1]


def plain_number(expression):
    if expression[0] not in ("plus", "less"):
        return expression
    if worth_of(expression) in range(10):
        return ("number", worth_of(expression))
    return (expression[0], *[plain_number(side) for side in expression[1:]])


def plain_truth(condition):
    """The condition, "yes" or "no"."""
    parts = [plain_truth(part) if condition[0] in ("not", "both") else plain_number(part) for part in condition[1:]]
    if condition[0] == "not":
        return {"yes": "no", "no": "yes"}.get(parts[0], ("not", parts[0]))
    if condition[0] == "both":
        if "no" in parts:
            return "no"
        left = [part for part in parts if part != "yes"]
        return ("both", *left) if len(left) == 2 else left[0] if left else "yes"
    if [side[0] for side in parts] == ["number", "number"]:
        one, other = parts[0][1], parts[1][1]
        return "yes" if (one == other if condition[0] == "same" else one < other) else "no"
    return (condition[0], *parts)


def plain_fold(graph):
    plain = Plain(graph)
    for number, node in plain.nodes.items():
        if node[0] == "put":
            plain.nodes[number] = changed(node, (2,), plain_number(node[2]))
        if node[0] == "test":
            plain.nodes[number] = changed(node, (1,), plain_truth(node[1]))
    for number in sorted(plain.nodes):
        node = plain.nodes[number]
        if node[0] == "test" and node[1] in ("yes", "no"):
            plain.take_away(number, node[2] if node[1] == "yes" else node[3])
    return plain.told()


def plain_deaf(graph):
    plain = Plain(graph)
    text = repr([node[2] if node[0] == "put" else node[1] for node in graph[1] if node[0] in ("put", "test")])
    unread = [name for name, size in graph[0] if repr(("box", name)) not in text]
    plain.boxes = [box for box in graph[0] if box[0] not in unread]
    for number in sorted(plain.nodes):
        node = plain.nodes[number]
        if node[0] == "put" and node[1] in unread:
            plain.take_away(number, node[3])
    return plain.told()


def plain_tail(graph):
    plain = Plain(graph)
    last = [number for number, node in enumerate(graph[1]) if node[0] == "call" and graph[1][node[2]] == ("back",)]
    for number in last:
        plain.take_away(number, plain.nodes[number][1])
    return plain.told()


def plain_share(graph):
    plain = Plain(graph)
    nodes = graph[1]
    bare, ways = [], []
    for node in nodes:
        paths = plain_next(node)
        ways.append([at(node, path) for path in paths])
        for path in paths:
            node = changed(node, path, None)
        bare.append(node)
    count = range(len(nodes))
    alike = {(one, other) for one in count for other in count if bare[one] == bare[other]}
    parted = True
    while parted:
        parted = {(one, other) for one, other in alike if any(pair not in alike for pair in zip(ways[one], ways[other]))}
        alike -= parted
    for other in count:
        first = min(one for one in count if (one, other) in alike)
        if first != other:
            plain.take_away(other, first)
    return plain.told()


def plain_cut(graph):
    plain = Plain(graph)
    order, found = [], deque([graph[2]])
    while found:
        number = found.popleft()
        if number not in order:
            order.append(number)
            found.extend(at(graph[1][number], path) for path in plain_next(graph[1][number]))
    plain.nodes = {number: node for number, node in plain.nodes.items() if number in order}
    return plain.told(order)


def plain_all(graph):
    stand_in = list(range(len(graph[1])))
    rounds = 0
    while True:
        before = graph
        for one_pass in (plain_fold, plain_deaf, plain_tail, plain_share, plain_cut):
            graph, through = one_pass(graph)
            stand_in = [through[number] if number is not None else None for number in stand_in]
        rounds += 1
        if graph == before:
            return (graph, stand_in, rounds)
