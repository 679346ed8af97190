"""What tests of graphs, papers and passes share: the form of a graph, a plain walk, a plain look at papers."""

import copy
import random
import unittest

from callmill.graphs import GraphMachine, next_ones
from callmill.papers import map_paper, right_paper
from chance_scripts import chance_events

QUIET = ("quiet",)
EVENTS = [QUIET, ("key", 0), ("key", 1), ("key", 2), ("word", "yes"), ("word", "a")]


def key(k):
    return ("key", k)


def word(w):
    return ("word", w)


def plainly_right(one, other, events, paper):
    """Point 19, word by word."""
    if one.begin()[0] != other.begin()[0] or (one.begin()[1], other.begin()[1]) not in paper:
        return False
    kept = set(paper)
    for a, b in paper:
        if one.over(a) is not other.over(b):
            return False
        for event in events:
            (said, behind), (said_beside, behind_beside) = one.step(a, event), other.step(b, event)
            if said != said_beside or (behind, behind_beside) not in kept:
                return False
    return True


def few_standings(machine, events):
    """The machine's standings as they are found, None where they are more than 300 (such as keep more and more take long)."""
    found = [machine.begin()[1]]
    for standing in found:
        for event in events:
            behind = machine.step(standing, event)[1]
            if behind not in found:
                found.append(behind)
        if len(found) > 300:
            return None
    return found


class GraphCase(unittest.TestCase):
    def whole(self, number, least, most):
        self.assertIs(type(number), int)
        self.assertTrue(least <= number <= most, number)

    def formed_expression(self, expression, names):
        self.assertIs(type(expression), tuple)
        if expression[0] == "number":
            self.assertEqual(len(expression), 2)
            self.whole(expression[1], 0, 9)
        elif expression[0] == "box":
            self.assertEqual(len(expression), 2)
            self.assertIn(expression[1], names)
        else:
            self.assertIn(expression[0], ("plus", "less"))
            self.assertEqual(len(expression), 3)
            self.formed_expression(expression[1], names)
            self.formed_expression(expression[2], names)

    def formed_condition(self, condition, names):
        self.assertIs(type(condition), tuple)
        if condition[0] == "not":
            self.assertEqual(len(condition), 2)
            self.formed_condition(condition[1], names)
            return
        self.assertEqual(len(condition), 3)
        self.assertIn(condition[0], ("both", "same", "under"))
        for part in condition[1:]:
            if condition[0] == "both":
                self.formed_condition(part, names)
            else:
                self.formed_expression(part, names)

    def formed_wait(self, node, number):
        self.assertEqual(len(node), 4)
        self.whole(node[1], 0, 9)
        self.assertIs(type(node[2]), tuple)
        for branch in node[2]:
            self.assertIs(type(branch), tuple)
            self.assertEqual(len(branch), 2)
            self.assertIn(branch[0][0], ("key", "word", "other"))
        if node[1] == 0:
            self.assertEqual(node[3], number)

    def formed(self, graph):
        """Of the form of point 21, each name a box's and each number a node's."""
        self.assertIs(type(graph), tuple)
        boxes, nodes, first = graph
        self.assertIs(type(boxes), list)
        self.assertIs(type(nodes), list)
        names = [name for name, size in boxes]
        self.whole(first, 0, len(nodes) - 1)
        lengths = {"say": 3, "hand": 4, "put": 4, "test": 4, "wait": 4, "call": 3, "back": 1, "stop": 1}
        for number, node in enumerate(nodes):
            self.assertIs(type(node), tuple)
            self.assertEqual(len(node), lengths[node[0]])
            for way in next_ones(node):
                self.whole(way, 0, len(nodes) - 1)
            if node[0] == "put":
                self.assertIn(node[1], names)
                self.formed_expression(node[2], names)
            if node[0] == "test":
                self.formed_condition(node[1], names)
            if node[0] == "wait":
                self.formed_wait(node, number)

    def never_for_ever(self, graph, chance):
        """Begun at whatever node, with values and a stack by chance, it comes to rest or is over."""
        boxes, nodes, first = graph
        machine = GraphMachine(graph)
        for number in range(len(nodes)):
            stack = [chance.randrange(len(nodes)) for place in range(chance.randrange(4))]
            values = tuple(chance.randrange(size) for name, size in boxes)
            at, steps = number, 0
            while at is not None and nodes[at][0] != "wait":
                node = nodes[at]
                if node[0] == "put":
                    values = tuple(chance.randrange(size) for name, size in boxes)
                at = machine.node_behind(node, stack, values)
                steps += 1
                self.assertLess(steps, 100000)

    def same_runs(self, one, other, rows):
        """Both say the same and are over at the same events."""
        for events in rows:
            (said, at), (said_beside, at_beside) = one.begin(), other.begin()
            self.assertEqual(said, said_beside)
            self.assertIs(one.over(at), other.over(at_beside))
            for event in events:
                (said, at), (said_beside, at_beside) = one.step(at, event), other.step(at_beside, event)
                self.assertEqual(said, said_beside)
                self.assertIs(one.over(at), other.over(at_beside))

    def same_papers(self, graph, new, stands_for):
        """The paper by the map is right, where there are few standings; tells how many, 0 where there are more."""
        one, other = GraphMachine(graph), GraphMachine(new)
        found = few_standings(one, EVENTS)
        if found is None:
            return 0
        paper = map_paper(graph, new, stands_for, EVENTS)
        self.assertEqual([a for a, b in paper], found)
        self.assertIs(plainly_right(one, other, EVENTS, paper), True)
        self.assertIs(right_paper(one, other, EVENTS, paper), True)
        return len(found)

    def passed(self, one_pass, graph):
        """What the pass tells of the graph, looked at in all that holds of every pass."""
        before = copy.deepcopy(graph)
        told = one_pass(graph)
        self.assertEqual(graph, before)
        self.assertIs(type(told), tuple)
        new, stands_for = told[0], told[1]
        self.formed(new)
        self.assertIs(type(stands_for), list)
        self.assertEqual(len(stands_for), len(graph[1]))
        for number in stands_for:
            if number is not None:
                self.whole(number, 0, len(new[1]) - 1)
        self.assertEqual(stands_for[graph[2]], new[2])
        self.own_lists(one_pass, graph, told)
        return told

    def own_lists(self, one_pass, graph, told):
        """What is done to what was told, or to what was handed in, changes nothing."""
        before, answer = copy.deepcopy(graph), copy.deepcopy(told)
        other = one_pass(graph)
        self.assertEqual(other, answer)
        for spoiled in (other[0][0], other[0][1], other[1]):
            spoiled.append("spoiled")
        self.assertEqual(graph, before)
        self.assertEqual(told, answer)
        self.assertEqual(one_pass(graph), answer)
        kept = (list(graph[0]), list(graph[1]), graph[2])
        third = one_pass(kept)
        kept[0].append("spoiled")
        kept[1].clear()
        self.assertEqual(third, answer)

    def does_the_same(self, graph, new, stands_for, rows=None):
        """The runs and the paper; and from each node that one stands for as from that one."""
        self.never_for_ever(graph, random.Random(7))
        if rows is None:
            chance = random.Random(7)
            rows = [chance_events(chance, 12) for count in range(3)] + [[QUIET] * 5]
        self.same_runs(GraphMachine(graph), GraphMachine(new), rows)
        for number, stand_in in enumerate(stands_for):
            if stand_in is not None:
                begun = GraphMachine((graph[0], graph[1], number))
                self.same_runs(begun, GraphMachine((new[0], new[1], stand_in)), rows)
        return self.same_papers(graph, new, stands_for)
