"""Machines, their runs and standings, and the events of a script."""

from callmill.bodies import statements_in
from callmill.errors import TooMany
from callmill.events import LETTERS, hand_text
from callmill.exprs import worth

QUIET = ("quiet",)
OTHER = ("other",)
KEYS = 10
MOST_STANDINGS = 2000


class Machine:
    """What is asked for its beginning and for steps; each machine of its own answers these."""

    def begin(self):
        """A tuple (said, standing)."""
        raise NotImplementedError()

    def step(self, standing, event):
        """A tuple (said, standing)."""
        raise NotImplementedError()

    def over(self, standing):
        """Whether the standing is over."""
        raise NotImplementedError()

    def values(self, standing):
        """The boxes of the standing."""
        raise NotImplementedError()


def run(machine, events):
    """What the machine says, first at its beginning, then at each event."""
    told = machine.begin()
    sayings = [list(told[0])]
    for event in events:
        told = machine.step(told[1], event)
        sayings.append(list(told[0]))
    return sayings


def standings(machine, events):
    """The machine's standings by these events, tuples (standing, over), as they are found."""
    found = [machine.begin()[1]]
    known = {found[0]: True}
    place = 0
    while place < len(found):
        for event in events:
            standing = machine.step(found[place], event)[1]
            if standing in known:
                continue
            if len(found) == MOST_STANDINGS:
                raise TooMany("more than two thousand standings")
            known[standing] = True
            found.append(standing)
        place += 1
    return [(standing, machine.over(standing)) for standing in found]


def events_of(script):
    """The events of a script."""
    return events_of_patterns(patterns_of(script))


def events_of_patterns(patterns):
    """The events of these patterns, and one more key and word that stand for all others."""
    keys = sorted(set([pattern[1] for pattern in patterns if pattern[0] == "key"]))
    words = sorted(set([pattern[1] for pattern in patterns if pattern[0] == "word"]))
    keys.extend([key for key in range(KEYS) if key not in keys][:1])
    words.append(first_free_word(words))
    return [QUIET] + [("key", key) for key in keys] + [("word", word) for word in words]


def patterns_of(script):
    """All patterns of the script's waits."""
    found = []
    for name, body in script[1]:
        for statement in statements_in(body):
            if statement[0] == "wait":
                found.extend([pattern for pattern, inner in statement[2]])
    return found


def first_free_word(words):
    """The first word that is none of these, by length and then by the alphabet."""
    taken = dict([(word, True) for word in words])
    word = LETTERS[0]
    while word in taken:
        word = word_behind(word)
    return word


def word_behind(word):
    """The word that comes next, by length and then by the alphabet."""
    last = LETTERS[-1]
    stem = word.rstrip(last)
    if stem == "":
        return LETTERS[0] * (len(word) + 1)
    letter = LETTERS[LETTERS.index(stem[-1]) + 1]
    return stem[:-1] + letter + LETTERS[0] * (len(word) - len(stem))


def first_values(boxes):
    """The values at the beginning."""
    return tuple([0 for box in boxes])


def values_put(boxes, values, name, expression):
    """The values behind a put of the expression's worth to the box of this name."""
    number = worth(expression, boxes, values)
    return tuple([number % box[1] if box[0] == name else value for box, value in zip(boxes, values)])


def said_text(thing):
    """The text that is said by a say or a hand, a statement or a node."""
    if thing[0] == "say":
        return thing[1]
    return hand_text(thing[1], thing[2])


def rested_on(standing):
    """The standing at a wait, (where, stack, values, left), when a turn went by, None where none is left."""
    left = standing[3]
    # Without a limit nothing is ever left, and it rests as it did.
    if left == 0:
        return standing
    if left == 1:
        return None
    return (standing[0], standing[1], standing[2], left - 1)


def way_of_pattern(branches, pattern):
    """What the first branch of this very pattern leads to, None where there is none."""
    for own, way in branches:
        if own == pattern:
            return way
    return None


def way_of_event(branches, event):
    """What the branch that the event takes leads to, None where a turn goes by."""
    if event == QUIET:
        return None
    way = way_of_pattern(branches, event)
    if way is None:
        way = way_of_pattern(branches, OTHER)
    return way


def stepped(machine, wait, standing, event):
    """The step of a machine that rests at this wait: ("wait", limit, branches, way when no turn is left)."""
    way = way_of_event(wait[2], event)
    if way is None:
        rest = rested_on(standing)
        if rest is not None:
            return ([], rest)
        way = wait[3]
    return machine.gone_on(way, standing[1], standing[2])
