"""The mill: a script taken through all steps, and the papers of these."""

from callmill.graphs import GraphMachine
from callmill.least import least_paper, least_table
from callmill.lower import lowered
from callmill.machines import events_of
from callmill.packs import pack
from callmill.papers import found_paper, map_paper
from callmill.passes import all_passes
from callmill.tables import table_of, table_paper
from callmill.teller import Teller


def joined(paper, other):
    """The paper of one and other, from those of one and middle and of middle and other."""
    beside = {}
    for middle, last in other:
        beside.setdefault(middle, []).append(last)
    found = {}
    for first, middle in paper:
        for last in beside.get(middle, []):
            found[(first, last)] = True
    return list(found)


def milled(script):
    """A tuple (graph, small, table, least, pack, papers) of a sound script."""
    events = events_of(script)
    graph = lowered(script)
    found = found_paper(Teller(script), GraphMachine(graph), events)
    passed = all_passes(graph)
    small = passed[0]
    mapped = map_paper(graph, small, passed[1], events)
    machine = GraphMachine(small)
    table = table_of(machine, events)
    least = least_table(table)[0]
    papers = [found, mapped, table_paper(machine, events), least_paper(table), same_rooms(least)]
    return (graph, small, table, least, pack(least), papers)


def same_rooms(table):
    """The paper of a table's machine and its pack's."""
    return [(room, room) for room in range(len(table[2]))]


def whole_paper(script):
    """The paper of the script's teller and its pack's machine."""
    papers = milled(script)[5]
    paper = papers[0]
    for other in papers[1:]:
        paper = joined(paper, other)
    return paper
