"""The pass that reckons ahead what hangs on no box."""

from callmill.exprs import holds, names_in, worth
from callmill.graphs import without

MOST = 9


def fold(graph):
    """The graph with numbers for what is reckoned ahead, and without the tests that are known."""
    nodes = [folded_node(node) for node in graph[1]]
    return without((graph[0], nodes, graph[2]), [known_way(node) for node in nodes])


def folded_node(node):
    """The node with its expression or condition folded; a known condition is True or False then."""
    if node[0] == "put":
        return ("put", node[1], folded(node[2]), node[3])
    if node[0] == "test":
        return ("test", folded_condition(node[1]), node[2], node[3])
    return node


def known_way(node):
    """Where a folded test whose condition is known leads, None of any other node."""
    if node[0] == "test" and node[1] is True:
        return node[2]
    if node[0] == "test" and node[1] is False:
        return node[3]
    return None


def folded(expression):
    """The expression with a number for each part that has no boxes and comes to one."""
    if names_in(expression) == []:
        number = worth(expression, [], ())
        if 0 <= number <= MOST:
            return ("number", number)
    if expression[0] == "number" or expression[0] == "box":
        return expression
    return (expression[0], folded(expression[1]), folded(expression[2]))


def folded_condition(condition):
    """The condition folded, True or False where it is known."""
    kind = condition[0]
    if kind == "not":
        inner = folded_condition(condition[1])
        return not inner if is_known(inner) else ("not", inner)
    if kind == "both":
        return folded_both(folded_condition(condition[1]), folded_condition(condition[2]))
    one = folded(condition[1])
    other = folded(condition[2])
    if one[0] == "number" and other[0] == "number":
        return holds((kind, one, other), [], ())
    return (kind, one, other)


def folded_both(one, other):
    """What comes of both of two folded conditions."""
    if one is False or other is False:
        return False
    if one is True:
        return other
    if other is True:
        return one
    return ("both", one, other)


def is_known(condition):
    """Whether a folded condition is known."""
    return condition is True or condition is False
