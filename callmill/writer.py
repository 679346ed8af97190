"""Scripts written as text."""

from callmill.events import shown_pattern

SIGNS = {"plus": "+", "less": "-", "same": "=", "under": "<"}
BLOCK = "  "


def shown(script):
    """The script's text, its rows parted by line feeds."""
    rows = [f"box {name} {size}" for name, size in script[0]]
    for name, body in script[1]:
        rows.extend(block_rows(f"talk {name}", body_rows(body)))
    return "\n".join(rows)


def inward(rows):
    """The rows, one block further in."""
    return [BLOCK + row for row in rows]


def block_rows(head, rows):
    """The rows as a block that the head begins."""
    return [head] + inward(rows) + ["end"]


def body_rows(body):
    """The rows of a body's statements."""
    rows = []
    for statement in body:
        rows.extend(statement_rows(statement))
    return rows


def statement_rows(statement):
    """The rows of one statement, with all that stands in it."""
    kind = statement[0]
    if kind == "test":
        return if_rows(statement)
    if kind == "wait":
        return wait_rows(statement)
    if kind == "loop":
        return block_rows("loop", body_rows(statement[1]))
    if kind == "put":
        return [put_row(statement)]
    # All others are written as they are told, part by part.
    return [joined_parts(statement)]


def joined_parts(parts):
    """The parts as the words of a row."""
    return " ".join([str(part) for part in parts])


def put_row(statement):
    """The row of a put."""
    return joined_parts(["put", statement[1], shown_expression(statement[2])])


def if_rows(statement):
    """The rows of a test, which is written as `if`."""
    condition = shown_condition(statement[1])
    rows = [f"if {condition}"] + inward(body_rows(statement[2]))
    if len(statement[3]) > 0:
        rows.append("else")
        rows.extend(inward(body_rows(statement[3])))
    return rows + ["end"]


def wait_rows(statement):
    """The rows of a wait and its branches."""
    limit = statement[1]
    rows = []
    for pattern, body in statement[2]:
        rows.append("on " + shown_pattern(pattern))
        rows.extend(inward(body_rows(body)))
    return block_rows(f"wait {limit}", rows)


def shown_expression(expression):
    """The expression's text."""
    kind = expression[0]
    if kind == "number" or kind == "box":
        return str(expression[1])
    one = shown_expression(expression[1])
    other = shown_expression(expression[2])
    return joined_parts(["(", one, SIGNS[kind], other, ")"])


def shown_condition(condition):
    """The condition's text."""
    kind = condition[0]
    if kind == "not":
        return "not " + shown_condition(condition[1])
    if kind == "both":
        one = shown_condition(condition[1])
        other = shown_condition(condition[2])
        return f"( {one} and {other} )"
    one = shown_expression(condition[1])
    other = shown_expression(condition[2])
    return joined_parts([one, SIGNS[kind], other])
