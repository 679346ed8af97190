"""Papers: standings of two machines, set side by side."""

from callmill.errors import TooMany
from callmill.graphs import GraphMachine
from callmill.machines import MOST_STANDINGS, standings


def right_paper(one, other, events, paper):
    """Whether the paper is right for both machines and these events."""
    pairs = dict([(pair, True) for pair in paper])
    if begun_pair(one, other) not in pairs:
        return False
    for pair in pairs:
        if one.over(pair[0]) != other.over(pair[1]):
            return False
        for event in events:
            if stepped_pair(one, other, pair, event) not in pairs:
                return False
    return True


def begun_pair(one, other):
    """The standings of both beginnings, None where they part."""
    told = one.begin()
    # A machine of another's making may tell the very list again that it told before.
    said = list(told[0])
    return pair_of(one, other, (said, told[1]), other.begin())


def stepped_pair(one, other, pair, event):
    """The standings that both steps lead to, None where they part."""
    told = one.step(pair[0], event)
    said = list(told[0])
    return pair_of(one, other, (said, told[1]), other.step(pair[1], event))


def pair_of(one, other, told, told_beside):
    """The two standings that were told, None where other things are said or one alone is over."""
    if told[0] != told_beside[0] or one.over(told[1]) != other.over(told_beside[1]):
        return None
    return (told[1], told_beside[1])


def found_paper(one, other, events):
    """A right paper of both machines, None where they part."""
    told = gone_through(one, other, events)
    return told[0] if told[1] is None else None


def gone_through(one, other, events):
    """A tuple (pairs, row): what both machines come to by rows that part none of them, and a row that parts them.

    The row is a shortest one and of these the first by the order of the events; it is None where none parts them.
    """
    # Each by itself is gone through first: too many standings are refused ahead of all else.
    standings(one, events)
    standings(other, events)
    first = begun_pair(one, other)
    if first is None:
        return ([], [])
    found = [first]
    ways = {first: None}
    parted = None
    place = 0
    while place < len(found):
        for event in events:
            pair = stepped_pair(one, other, found[place], event)
            # Behind a parting the others are still gone through: too many pairs are refused ahead of it.
            if pair is None and parted is None:
                parted = (found[place], event)
            if pair is not None and pair not in ways:
                if len(found) == MOST_STANDINGS:
                    raise TooMany("more than two thousand pairs of standings")
                ways[pair] = (found[place], event)
                found.append(pair)
        place += 1
    return (found, None if parted is None else row_by(ways, parted))


def row_by(ways, way):
    """The row of events that ends with this way, (pair, event); ways has the one to each pair, None to the first."""
    row = []
    while way is not None:
        row.append(way[1])
        way = ways[way[0]]
    row.reverse()
    return row


def map_paper(one, other, stands_for, events):
    """The paper of two graphs' machines by what of the other stands for each node of the one."""
    paper = []
    for standing, ended in standings(GraphMachine(one), events):
        if ended:
            paper.append((None, None))
        elif stands_for[standing[0]] is not None:
            paper.append((standing, mapped_standing(one, other, stands_for, standing)))
    return paper


def mapped_standing(one, other, stands_for, standing):
    """The standing of the other graph's machine that stands for one at rest."""
    nodes = other[1]
    kept = [stands_for[number] for number in standing[1]]
    # The other's machine keeps no backs, and nothing that its graph does not have.
    stack = tuple([number for number in kept if number is not None and nodes[number][0] != "back"])
    names = [box[0] for box in one[0]]
    values = tuple([standing[2][names.index(box[0])] for box in other[0]])
    return (stands_for[standing[0]], stack, values, standing[3])
