"""All passes, again and again until nothing changes."""

from callmill.cut import cut
from callmill.deaf import deaf
from callmill.fold import fold
from callmill.share import share
from callmill.tail import tail


def all_passes(graph):
    """A tuple (graph, map, rounds): what is left when a round of all five changes nothing."""
    stands_for = list(range(len(graph[1])))
    rounds = 0
    changed = True
    while changed:
        told = one_round(graph)
        changed = told[0] != graph
        graph = told[0]
        stands_for = through(stands_for, told[1])
        rounds += 1
    return (graph, stands_for, rounds)


def one_round(graph):
    """A tuple (graph, map): each of the five passes on what the one before told."""
    folded = fold(graph)
    heard = deaf(folded[0])
    tailed = tail(heard[0])
    shared = share(tailed[0])
    small = cut(shared[0])
    stands_for = folded[1]
    for behind in (heard[1], tailed[1], shared[1], small[1]):
        stands_for = through(stands_for, behind)
    return (small[0], stands_for)


def through(stands_for, behind):
    """The map through one and the one behind it, None from where one says None."""
    return [None if number is None else behind[number] for number in stands_for]
