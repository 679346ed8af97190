"""Points 2, 4, 24 and 30: all passes, again and again."""

import copy
import random
import unittest

from callmill.graphs import GraphMachine
from callmill.looker import sound
from callmill.lower import lowered
from callmill.passes import all_passes
from callmill.reader import read_script
from callmill.teller import Teller
from chance_graphs import GraphMaker
from chance_scripts import Maker, chance_events
from graph_case import QUIET, GraphCase, key
from plain_passes import plain_all
from plain_teller import set_beside

STOP, BACK = ("stop",), ("back",)
BOXES = [("a", 2), ("b", 3), ("c", 4)]
A, B, C, ONE = ("box", "a"), ("box", "b"), ("box", "c"), ("number", 1)
YES = ("same", ONE, ONE)


class Case(GraphCase):
    def told(self, nodes, boxes, new, stands_for, rounds, first=0):
        graph = (list(BOXES), nodes, first)
        with self.subTest(nodes=nodes):
            told = self.passed(all_passes, graph)
            self.assertEqual(len(told), 3)
            self.assertEqual(told, (([box for box in BOXES if box[0] in boxes], new, 0), stands_for, rounds))
            self.assertIs(type(told[2]), int)
            self.does_the_same(graph, told[0], told[1])


class Rounds(Case):
    def test_left_as_it_is(self):
        for nodes in ([("wait", 1, ((key(1), 1),), 0), ("say", "a", 0)], [STOP], [BACK]):
            told = self.passed(all_passes, ([], nodes, 0))
            self.assertEqual(told, (([], nodes, 0), list(range(len(nodes))), 1))
            self.does_the_same(([], nodes, 0), *told[:2])

    def test_only_boxes_left_out(self):
        self.told([STOP], "", [STOP], [0], 2)

    def test_only_numbered_anew(self):
        self.told([STOP, ("test", ("same", A, ("plus", B, C)), 0, 2), ("say", "a", 0)], "abc",
                  [("test", ("same", A, ("plus", B, C)), 1, 2), STOP, ("say", "a", 1)], [1, 0, 2], 2, 1)

    def test_only_an_expression_made_a_number(self):
        nodes = [("test", ("same", A, ("plus", ONE, ONE)), 1, 2), ("test", ("same", B, C), 2, 3), ("say", "a", 3), STOP]
        new = [("test", ("same", A, ("number", 2)), 1, 2), ("test", ("same", B, C), 2, 3), ("say", "a", 3), STOP]
        self.told(nodes, "abc", new, [0, 1, 2, 3], 2)

    def test_boxes_that_read_one_another(self):
        nodes = [("put", "a", ONE, 1), ("put", "b", A, 2), ("put", "c", B, 3), ("wait", 0, ((key(1), 4),), 3), STOP]
        self.told(nodes, "", [("wait", 0, ((key(1), 1),), 0), STOP], [0, 0, 0, 0, 1], 4)

    def test_a_read_that_is_folded_away(self):
        nodes = [("put", "a", ONE, 1), ("test", ("both", ("same", A, ONE), ("under", ONE, ONE)), 2, 3), ("say", "x", 3), STOP]
        self.told(nodes, "", [STOP], [0, 0, None, 0], 2)

    def test_calls_one_behind_the_other(self):
        nodes = [("wait", 1, ((key(1), 1),), 5), ("call", 5, 2), ("call", 5, 3), ("call", 5, 4), ("call", 5, 5), BACK]
        self.told(nodes, "", [("wait", 1, ((key(1), 1),), 1), BACK], [0, 1, 1, 1, 1, 1], 5)

    def test_a_read_where_no_way_leads(self):
        nodes = [("put", "a", ONE, 1), STOP, ("test", ("same", A, ONE), 1, 3), ("put", "b", ONE, 1)]
        self.told(nodes, "", [STOP], [0, 0, None, 0], 3)

    def test_what_is_shared_behind_what_was_left_out(self):
        nodes = [("wait", 2, ((key(1), 1), (key(2), 2)), 0), ("put", "a", ONE, 3), ("test", YES, 4, 5), ("say", "a", 6),
                 ("say", "a", 6), ("say", "b", 6), STOP]
        new = [("wait", 2, ((key(1), 1), (key(2), 1)), 0), ("say", "a", 2), STOP]
        self.told(nodes, "", new, [0, 1, 1, 1, 1, None, 2], 2)

    def test_none_from_where_one_says_none(self):
        # The first round leaves out a node to which no way leads; the later ones have other nodes of its number.
        nodes = [("put", "b", A, 1), ("wait", 0, ((key(1), 3),), 1), ("say", "z", 3), STOP]
        self.told(nodes, "", [("wait", 0, ((key(1), 1),), 0), STOP], [0, 0, None, 1], 3)
        nodes = [("put", "b", ONE, 1), ("put", "a", B, 2), ("wait", 0, ((key(1), 4),), 2), ("say", "z", 4), STOP]
        self.told(nodes, "", [("wait", 0, ((key(1), 1),), 0), STOP], [0, 0, 0, None, 1], 3)

    def test_the_first_one_goes_through_all(self):
        nodes = [STOP, ("put", "a", ONE, 0), ("test", YES, 1, 0), ("call", 2, 4), BACK]
        self.told(nodes, "", [STOP], [0, 0, 0, 0, None], 2, 3)


class Small(Case):
    def test_a_script(self):
        script = read_script("\n".join([
            "box a 2", "box b 2", "talk main", "loop", "call sub", "if ( 1 + 1 ) = 2", "put b a", "else", "say never", "end",
            "end", "end", "talk sub", "wait 0", "on key 1", "say yes", "on key 2", "say yes", "end", "call last", "end",
            "talk last", "put a 1", "back", "say never", "end"]))
        self.assertIs(sound(script), True)
        graph = lowered(script)
        told = self.passed(all_passes, graph)
        self.assertEqual(told[0][0], [])
        self.assertEqual(sorted(node[0] for node in told[0][1]), ["back", "call", "say", "wait"])
        self.does_the_same(graph, *told[:2])
        self.same_runs(Teller(script), GraphMachine(told[0]), [[key(1), QUIET, key(2), key(3), key(1)]])


class ByChance(GraphCase):
    def test_graphs(self):
        maker = GraphMaker(111)
        large = 0
        rounds = {}
        for count in range(600):
            graph = maker.graph()
            told = self.passed(all_passes, graph)
            self.assertEqual(told, plain_all(graph))
            large += self.does_the_same(graph, *told[:2]) > 3
            rounds[told[2]] = rounds.get(told[2], 0) + 1
            self.assertEqual(all_passes(told[0]), (told[0], list(range(len(told[0][1]))), 1))
        self.assertGreater(large, 100)
        self.assertGreater(rounds[2], 50)
        self.assertGreater(rounds[3], 50)
        self.assertGreater(rounds[4], 0)

    def test_lowered_scripts(self):
        maker, chance = Maker(112), random.Random(112)
        count = turns = 0
        while count < 250:
            script = maker.script()
            if not sound(script):
                continue
            count += 1
            before = copy.deepcopy(script)
            graph = lowered(script)
            told = self.passed(all_passes, graph)
            self.assertEqual(told, plain_all(graph))
            self.assertEqual(script, before)
            rows = [chance_events(chance, 12) for row in range(3)]
            self.does_the_same(graph, *told[:2], rows)
            for row in rows:
                turns += set_beside(self, GraphMachine(told[0]), script, row, [name for name, size in told[0][0]])[0]
        self.assertGreater(turns, 200)


if __name__ == "__main__":
    unittest.main()
