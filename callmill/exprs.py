"""Expressions and conditions, reckoned by boxes and their values."""


def value_of_box(name, boxes, values):
    """The value that the box of this name holds."""
    names = [box[0] for box in boxes]
    return values[names.index(name)]


def worth(expression, boxes, values):
    """The whole number that the expression comes to."""
    kind = expression[0]
    if kind == "number":
        return expression[1]
    if kind == "box":
        return value_of_box(expression[1], boxes, values)
    one = worth(expression[1], boxes, values)
    other = worth(expression[2], boxes, values)
    if kind == "plus":
        return one + other
    return one - other


def holds(condition, boxes, values):
    """Whether the condition holds."""
    kind = condition[0]
    if kind == "not":
        return not holds(condition[1], boxes, values)
    if kind == "both":
        return holds(condition[1], boxes, values) and holds(condition[2], boxes, values)
    one = worth(condition[1], boxes, values)
    other = worth(condition[2], boxes, values)
    if kind == "same":
        return one == other
    return one < other


def names_in(thing):
    """The names in an expression or a condition, in the order written, each as often as it stands."""
    kind = thing[0]
    if kind == "number":
        return []
    if kind == "box":
        return [thing[1]]
    if kind == "not":
        return names_in(thing[1])
    return names_in(thing[1]) + names_in(thing[2])
