"""Scripts read from text."""

from callmill.errors import NoScript
from callmill.events import is_word

FIGURES = "0123456789"
SIZES = (2, 3, 4, 5)
NO_NAMES = ("not", "and")
LONE_WORDS = ("again", "leave", "back", "stop")
SIGNS = ("(", ")", "+", "-", "=", "<", "not", "and")
# What a row of parts makes: the kind, whether it is an expression or a condition, the parts.
FORMS = (
    ("plus", "expression", ("(", "expression", "+", "expression", ")")),
    ("less", "expression", ("(", "expression", "-", "expression", ")")),
    ("same", "condition", ("expression", "=", "expression")),
    ("under", "condition", ("expression", "<", "expression")),
    ("not", "condition", ("not", "condition")),
    ("both", "condition", ("(", "condition", "and", "condition", ")")),
)


def read_script(text):
    """The script that the text writes."""
    rows = text.split("\n")
    reading = Reading()
    for number, row in enumerate(rows, start=1):
        bare = row.lstrip(" ")
        if bare != "" and not reading.take(bare.split(" ")):
            raise NoScript(number)
    if len(reading.blocks) > 1:
        raise NoScript(len(rows) + 1)
    return (reading.boxes, reading.blocks[0].body)


class Block:
    """A block that has no end yet: what its first row told, and what stands in it so far."""

    def __init__(self, kind, head):
        self.kind = kind
        self.head = head
        self.body = []


class Reading:
    """The script as far as its rows have been read; the body of the outermost block is its talks."""

    def __init__(self):
        self.boxes = []
        self.blocks = [Block("script", None)]

    def take(self, words):
        """Goes on with a row's words; tells whether a script's text can."""
        inmost = self.blocks[-1].kind
        if inmost == "script":
            return self.take_box(words) or self.take_talk(words)
        if words[0] == "end":
            return self.take_end(words)
        if words[0] == "else":
            return self.take_else(words)
        if words[0] == "on":
            return self.take_branch(words)
        if inmost == "wait":
            return False
        return self.take_block(words) or self.take_statement(words)

    def take_box(self, words):
        """Takes the row of a box, which stands ahead of all talks."""
        if len(words) != 3 or words[0] != "box" or len(self.blocks[0].body) > 0:
            return False
        size = read_figure(words[2])
        if not is_name(words[1]) or size not in SIZES:
            return False
        self.boxes.append((words[1], size))
        return True

    def take_talk(self, words):
        """Takes the first row of a talk."""
        if len(words) != 2 or words[0] != "talk" or not is_word(words[1]):
            return False
        self.blocks.append(Block("talk", words[1]))
        return True

    def take_end(self, words):
        """Takes the end of the inmost block; a wait's last branch ends with its wait."""
        if len(words) != 1:
            return False
        if self.blocks[-1].kind == "on":
            self.shut()
        self.shut()
        return True

    def take_else(self, words):
        """Takes the row between the two bodies of a test."""
        inmost = self.blocks[-1]
        if len(words) != 1 or inmost.kind != "if":
            return False
        self.blocks.pop()
        self.blocks.append(Block("else", (inmost.head, inmost.body)))
        return True

    def take_branch(self, words):
        """Takes the first row of a branch, with which the branch ahead of it ends."""
        pattern = read_pattern(words[1:])
        inmost = self.blocks[-1].kind
        if pattern is None or (inmost != "wait" and inmost != "on"):
            return False
        if inmost == "on":
            self.shut()
        self.blocks.append(Block("on", pattern))
        return True

    def take_block(self, words):
        """Takes the first row of a statement that is a block."""
        kind = words[0]
        head = None
        if kind == "if":
            head = read_thing(words[1:], "condition")
        if kind == "wait" and len(words) == 2:
            head = read_figure(words[1])
        if head is None and words != ["loop"]:
            return False
        self.blocks.append(Block(kind, head))
        return True

    def take_statement(self, words):
        """Takes the row of a statement that is no block."""
        statement = read_statement(words)
        if statement is None:
            return False
        self.blocks[-1].body.append(statement)
        return True

    def shut(self):
        """Puts the inmost block, now whole, into the one around it."""
        block = self.blocks.pop()
        self.blocks[-1].body.append(made_of(block))


def made_of(block):
    """The talk, statement or branch that a whole block is."""
    if block.kind == "if":
        return ("test", block.head, block.body, [])
    if block.kind == "else":
        return ("test", block.head[0], block.head[1], block.body)
    if block.kind == "wait":
        return ("wait", block.head, block.body)
    if block.kind == "loop":
        return ("loop", block.body)
    return (block.head, block.body)


def read_statement(words):
    """The statement that is no block of a row's words, None where they write none."""
    kind = words[0]
    told = words[1:]
    if kind in LONE_WORDS:
        return (kind,) if told == [] else None
    if kind == "say" or kind == "call":
        return (kind, told[0]) if len(told) == 1 and is_word(told[0]) else None
    if kind == "hand":
        return read_hand(told)
    if kind == "put":
        return read_put(told)
    return None


def read_hand(told):
    """The hand-over of the words behind `hand`, None where they write none."""
    if len(told) != 2:
        return None
    line = read_figure(told[0])
    if line is None or not is_word(told[1]):
        return None
    return ("hand", line, told[1])


def read_put(told):
    """The put of the words behind `put`, None where they write none."""
    expression = read_thing(told[1:], "expression")
    if expression is None or not is_name(told[0]):
        return None
    return ("put", told[0], expression)


def read_pattern(told):
    """The pattern of the words behind `on`, None where they write none."""
    if told == ["other"] or told == ["none"]:
        return (told[0],)
    if len(told) != 2:
        return None
    if told[0] == "word" and is_word(told[1]):
        return ("word", told[1])
    key = read_figure(told[1])
    if told[0] == "key" and key is not None:
        return ("key", key)
    return None


def read_figure(word):
    """The number of one figure that the word writes, None where it writes none."""
    if len(word) != 1 or word not in FIGURES:
        return None
    return int(word)


def is_name(word):
    """Whether the word may be a box's name."""
    return is_word(word) and word not in NO_NAMES


def read_thing(words, wanted):
    """The expression or condition, as wanted, that the words write, None where they write none."""
    # A stack in the place of calls within calls: so no row is too deep, whatever its signs.
    parts = []
    for word in words:
        part = read_part(word)
        if part is None:
            return None
        parts.append(part)
        while put_together(parts):
            pass
    if len(parts) == 1 and parts[0][0] == wanted:
        return parts[0][1]
    return None


def read_part(word):
    """A tuple of what the word is and its expression, None of both where it is no part of one."""
    if word in SIGNS:
        return (word, None)
    figure = read_figure(word)
    if figure is not None:
        return ("expression", ("number", figure))
    if is_word(word):
        return ("expression", ("box", word))
    return None


def put_together(parts):
    """Puts the last parts together where they are of a form; tells whether they were."""
    for kind, made, form in FORMS:
        last = parts[-len(form):]
        if tuple([part[0] for part in last]) == form:
            things = [part[1] for part in last if part[1] is not None]
            for part in last:
                parts.pop()
            parts.append((made, tuple([kind] + things)))
            return True
    return False
