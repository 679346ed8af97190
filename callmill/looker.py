"""The faults of a script, and which of its loops could go round without a wait."""

from callmill.bodies import bodies_of, statements_in
from callmill.events import shown_pattern
from callmill.exprs import names_in

ENDS = ("on", "again", "leave", "back", "stop")
NONE = ("none",)


def faults(script):
    """The script's faults, tuples (talk, word, what)."""
    found = head_faults(script)
    for name, body in script[1]:
        look = TalkLook(name, script)
        look.look_body(body, False)
        found.extend(look.found)
    found.extend(round_faults(script[1]))
    if len(found) == 0:
        found.extend(dry_faults(script[1]))
    return found


def sound(script):
    """Whether the script has no faults."""
    return len(faults(script)) == 0


def dry_ends(script, body):
    """The words that may come of the body without a wait ahead."""
    return ends_of_body(body, script[1], {})


def head_faults(script):
    """The faults of the boxes' and talks' names."""
    found = [("", "twice", name) for name in names_met_again(script[0])]
    found.extend([(name, "twice", name) for name in names_met_again(script[1])])
    if len(script[1]) == 0:
        found.append(("", "none", ""))
    return found


def names_met_again(things):
    """The names of those boxes or talks of which one ahead has the name."""
    names = [thing[0] for thing in things]
    return [name for place, name in enumerate(names) if name in names[:place]]


class TalkLook:
    """A look through one talk, statement by statement."""

    def __init__(self, talk, script):
        self.talk = talk
        self.box_names = [box[0] for box in script[0]]
        self.talk_names = [named[0] for named in script[1]]
        self.found = []

    def tell(self, word, what):
        """Tells a fault of this talk."""
        self.found.append((self.talk, word, what))

    def look_body(self, body, in_loop):
        """Looks through a body."""
        for statement in body:
            self.look_statement(statement, in_loop)

    def look_statement(self, statement, in_loop):
        """Looks at a statement and through all that stands in it."""
        kind = statement[0]
        if kind == "wait":
            self.look_wait(statement, in_loop)
            return
        if kind == "put":
            self.look_names([statement[1]] + names_in(statement[2]))
        if kind == "test":
            self.look_names(names_in(statement[1]))
        if kind == "call" and statement[1] not in self.talk_names:
            self.tell("talk", statement[1])
        if (kind == "again" or kind == "leave") and not in_loop:
            self.tell(kind, "")
        for body in bodies_of(statement):
            self.look_body(body, in_loop or kind == "loop")

    def look_names(self, names):
        """Looks for names that are no box."""
        for name in names:
            if name not in self.box_names:
                self.tell("box", name)

    def look_wait(self, statement, in_loop):
        """Looks at a wait, its patterns and through its branches."""
        patterns = [pattern for pattern, body in statement[2]]
        if statement[1] == 0 and NONE in patterns:
            self.tell("limit", "")
        for place, branch in enumerate(statement[2]):
            if branch[0] in patterns[:place]:
                self.tell("branch", shown_pattern(branch[0]))
            self.look_body(branch[1], in_loop)


def first_talk(talks, name):
    """The number of the first talk of this name, None where there is none."""
    for place, talk in enumerate(talks):
        if talk[0] == name:
            return place
    return None


def round_faults(talks):
    """The faults of talks that come to themselves by calls."""
    called = [called_talks(talks, body) for name, body in talks]
    return [(talk[0], "round", "") for place, talk in enumerate(talks) if comes_round(place, called)]


def called_talks(talks, body):
    """The numbers of the talks that are called in the body."""
    numbers = [first_talk(talks, statement[1]) for statement in statements_in(body) if statement[0] == "call"]
    return [number for number in numbers if number is not None]


def comes_round(talk, called):
    """Whether calls lead from the talk to itself."""
    reached = []
    ahead = list(called[talk])
    while len(ahead) > 0:
        number = ahead.pop()
        if number not in reached:
            reached.append(number)
            ahead.extend(called[number])
    return talk in reached


def dry_faults(talks):
    """The faults of dry loops, where there are no others."""
    found = []
    known = {}
    for name, body in talks:
        loops = [statement for statement in statements_in(body) if statement[0] == "loop"]
        found.extend([(name, "dry", "") for loop in loops if is_dry(loop, talks, known)])
    return found


def is_dry(loop, talks, known):
    """Whether the loop could go round without a wait."""
    ends = ends_of_body(loop[1], talks, known)
    return "on" in ends or "again" in ends


def ends_of_body(body, talks, known):
    """The dry ends of a body; known keeps those of the talks that were called so far."""
    ends = ["on"]
    for statement in body:
        if "on" not in ends:
            break
        ends = [word for word in ends if word != "on"] + ends_of_statement(statement, talks, known)
    return [word for word in ENDS if word in ends]


def ends_of_statement(statement, talks, known):
    """The dry ends of a statement, in whatever order."""
    kind = statement[0]
    if kind == "wait":
        return []
    if kind == "test":
        return ends_of_body(statement[2], talks, known) + ends_of_body(statement[3], talks, known)
    if kind == "loop":
        ends = ends_of_body(statement[1], talks, known)
        return (["on"] if "leave" in ends else []) + kept_ends(ends, ("back", "stop"))
    if kind == "call":
        ends = ends_of_talk(statement[1], talks, known)
        return (["on"] if "on" in ends or "back" in ends else []) + kept_ends(ends, ("stop",))
    if kind in ENDS:
        return [kind]
    return ["on"]


def kept_ends(ends, kept):
    """Those of the ends that are kept."""
    return [word for word in ends if word in kept]


def ends_of_talk(name, talks, known):
    """The dry ends of the called talk's body."""
    # Kept, since talks that call one another many times would else be gone through many times over.
    if name not in known:
        known[name] = ends_of_body(talks[first_talk(talks, name)][1], talks, known)
    return known[name]
