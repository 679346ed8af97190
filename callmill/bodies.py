"""The statements of a body, and what stands within them."""


def bodies_of(statement):
    """The bodies that stand straight in the statement, in the order of the text."""
    kind = statement[0]
    if kind == "test":
        return [statement[2], statement[3]]
    if kind == "wait":
        return [body for pattern, body in statement[2]]
    if kind == "loop":
        return [statement[1]]
    return []


def statements_in(body):
    """All statements of the body, those within others too, in the order of the text."""
    found = []
    for statement in body:
        found.append(statement)
        for inner in bodies_of(statement):
            found.extend(statements_in(inner))
    return found
