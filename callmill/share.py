"""The pass that makes one node of those that do alike."""

from callmill.graphs import next_ones, renumbered


def share(graph):
    """The graph with one node for all that do alike."""
    nodes = graph[1]
    nowhere = [0 for node in nodes]
    stands_for = put_together([renumbered(node, nowhere) for node in nodes], [next_ones(node) for node in nodes])
    shared = [renumbered(nodes[number], stands_for) for number in firsts(stands_for)]
    return ((list(graph[0]), shared, stands_for[graph[2]]), stands_for)


def put_together(labels, ways):
    """For each thing the number of its group, the groups being numbered by their first things.

    Two things are in one group where their labels are the same and what their ways lead to is in one group too, way by
    way; the groups are as few as can be.
    """
    grouping = Grouping(labels, ways)
    while len(grouping.waiting) > 0:
        grouping.part(grouping.waiting.pop())
    return numbered(grouping.groups)


def numbered(labels):
    """For each label its number: unlike ones are counted as they are first met."""
    numbers = counted(labels)
    return [numbers[label] for label in labels]


def counted(things):
    """The unlike things, as they are first met, each with its number."""
    numbers = {}
    for thing in things:
        numbers.setdefault(thing, len(numbers))
    return numbers


def firsts(numbers):
    """The places at which each number is first met."""
    found = {}
    for place, number in enumerate(numbers):
        found.setdefault(number, place)
    return list(found.values())


class Grouping:
    """Things in groups that are parted as long as one leads where another of its group does not.

    The things of a group that are not touched have ways to the same groups.
    """

    def __init__(self, labels, ways):
        self.ways = ways
        self.sources = sources_of(ways)
        self.groups = numbered(labels)
        self.members = members_of(self.groups)
        self.touched = [dict([(thing, True) for thing in things]) for things in self.members]
        self.waiting = list(range(len(self.members)))

    def part(self, group):
        """Parts the group by where its things lead; what led to those that leave it is touched."""
        parts = sorted(self.parts_of(group), key=len)
        # The largest part stays, so that few things are moved, however often.
        self.members[group] = parts.pop()
        for things in parts:
            self.regroup(things)
        for things in parts:
            for thing in things:
                self.touch_sources(thing)

    def parts_of(self, group):
        """The things of the group in parts that lead to the same groups; none is touched any more."""
        touched = self.touched[group]
        self.touched[group] = {}
        rest = [thing for thing in self.members[group] if thing not in touched]
        parts = {}
        for thing in touched:
            parts.setdefault(self.led_groups(thing), []).append(thing)
        if len(rest) > 0:
            parts.setdefault(self.led_groups(rest[0]), []).extend(rest)
        return list(parts.values())

    def led_groups(self, thing):
        """The groups that the thing's ways lead to."""
        return tuple([self.groups[way] for way in self.ways[thing]])

    def regroup(self, things):
        """Makes a new group of the things."""
        for thing in things:
            self.groups[thing] = len(self.members)
        self.members.append(things)
        self.touched.append({})

    def touch_sources(self, thing):
        """Touches what leads to the thing, so that their groups are looked at again."""
        for source in self.sources[thing]:
            group = self.groups[source]
            if len(self.touched[group]) == 0:
                self.waiting.append(group)
            self.touched[group][source] = True


def sources_of(ways):
    """For each thing the things that lead to it."""
    found = [[] for each in ways]
    for thing, led in enumerate(ways):
        for way in led:
            found[way].append(thing)
    return found


def members_of(groups):
    """For each group, by rising numbers, the list of its things."""
    found = [[] for number in firsts(groups)]
    for thing, group in enumerate(groups):
        found[group].append(thing)
    return found
