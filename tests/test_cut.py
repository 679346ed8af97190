"""Points 2, 4, 24 and 29: nodes that no way leads to are left out."""

import random
import unittest

from callmill.cut import cut
from callmill.looker import sound
from callmill.lower import lowered
from chance_graphs import GraphMaker
from chance_scripts import Maker, chance_events
from graph_case import GraphCase, key, word
from plain_passes import plain_cut

STOP, BACK = ("stop",), ("back",)
BOXES = [("a", 2), ("b", 3)]
SAME = ("same", ("box", "a"), ("number", 1))
OTHER = ("other",)


class Case(GraphCase):
    def told(self, nodes, new, stands_for, first=0, boxes=tuple(BOXES)):
        graph = (list(boxes), nodes, first)
        with self.subTest(nodes=nodes):
            told = self.passed(cut, graph)
            self.assertEqual(told, ((list(boxes), new, 0), stands_for))
            self.does_the_same(graph, told[0], told[1])


class LeftOut(Case):
    def test_nodes_that_no_way_leads_to(self):
        self.told([STOP, BACK, ("say", "a", 0)], [STOP], [0, None, None])
        self.told([STOP, BACK, ("say", "a", 0)], [BACK], [None, 0, None], 1)
        self.told([STOP, BACK, ("say", "a", 0)], [("say", "a", 1), STOP], [1, None, 0], 2)

    def test_nodes_that_only_lead_to_one_another(self):
        nodes = [STOP, ("wait", 1, ((key(1), 2),), 1), ("wait", 0, ((key(1), 1),), 2)]
        self.told(nodes, [STOP], [0, None, None])

    def test_nodes_that_lead_to_what_stays(self):
        nodes = [("say", "a", 3), ("say", "b", 0), ("call", 0, 3), STOP, ("test", SAME, 3, 0)]
        self.told(nodes, [("say", "a", 1), STOP], [0, None, None, 1, None])

    def test_behind_a_way_that_is_never_gone(self):
        nodes = [("test", ("same", ("number", 1), ("number", 1)), 1, 2), STOP, ("say", "a", 1)]
        self.told(nodes, nodes, [0, 1, 2])

    def test_boxes_stay(self):
        self.told([STOP], [STOP], [0])
        self.told([STOP], [STOP], [0], boxes=())

    def test_nothing_left_out(self):
        nodes = [("say", "a", 1), ("wait", 0, ((key(1), 2), (OTHER, 3)), 1), ("call", 3, 1), BACK]
        self.told(nodes, nodes, [0, 1, 2, 3])


class Numbers(Case):
    def test_the_first_one_is_0(self):
        self.told([STOP, ("say", "b", 0), ("say", "a", 1)], [("say", "a", 1), ("say", "b", 2), STOP], [2, 1, 0], 2)

    def test_each_kind_of_way(self):
        for node, new in ((("say", "a", 3), ("say", "a", 1)), (("hand", 2, "a", 3), ("hand", 2, "a", 1)),
                          (("put", "a", ("number", 1), 3), ("put", "a", ("number", 1), 1))):
            self.told([BACK, node, BACK, STOP], [new, STOP], [None, 0, None, 1], 1)

    def test_of_a_test_the_first_way_first(self):
        self.told([("test", SAME, 3, 2), BACK, ("say", "a", 3), STOP], [("test", SAME, 1, 2), STOP, ("say", "a", 1)], [0, None, 2, 1])
        self.told([("test", SAME, 2, 3), BACK, ("say", "a", 3), STOP], [("test", SAME, 1, 2), ("say", "a", 2), STOP], [0, None, 1, 2])

    def test_of_a_call_the_entry_first(self):
        self.told([("call", 3, 2), BACK, ("say", "a", 1), ("wait", 0, ((key(1), 1),), 3)],
                  [("call", 1, 2), ("wait", 0, ((key(1), 3),), 1), ("say", "a", 3), BACK], [0, 3, 2, 1])
        self.told([("call", 2, 1), ("say", "b", 3), STOP, BACK], [("call", 1, 2), STOP, ("say", "b", 3), BACK], [0, 2, 1, 3])

    def test_of_a_wait_the_branches_in_their_order_and_none_last(self):
        wait = ("wait", 2, ((OTHER, 4), (key(1), 2), (word("a"), 3)), 1)
        nodes = [wait, ("say", "n", 5), ("say", "k", 5), ("say", "w", 5), ("say", "o", 5), STOP]
        new = [("wait", 2, ((OTHER, 1), (key(1), 2), (word("a"), 3)), 4), ("say", "o", 5), ("say", "k", 5), ("say", "w", 5),
               ("say", "n", 5), STOP]
        self.told(nodes, new, [0, 4, 2, 3, 1, 5])

    def test_of_a_wait_of_no_limit(self):
        nodes = [STOP, ("wait", 0, ((key(2), 2), (key(1), 0)), 1), ("say", "a", 1)]
        self.told(nodes, [("wait", 0, ((key(2), 1), (key(1), 2)), 0), ("say", "a", 0), STOP], [2, 0, 1], 1)

    def test_what_is_found_earlier_is_gone_through_earlier(self):
        nodes = [("test", SAME, 1, 2), ("test", SAME, 5, 6), ("test", SAME, 4, 3), ("say", "a", 7), ("say", "b", 7),
                 ("say", "c", 8), ("say", "d", 7), STOP, BACK]
        new = [("test", SAME, 1, 2), ("test", SAME, 3, 4), ("test", SAME, 5, 6), ("say", "c", 7), ("say", "d", 8),
               ("say", "b", 8), ("say", "a", 8), BACK, STOP]
        self.told(nodes, new, [0, 1, 2, 6, 5, 3, 4, 8, 7])

    def test_each_once(self):
        nodes = [("wait", 1, ((key(1), 1), (key(2), 1), (OTHER, 0)), 2), ("say", "a", 0), ("say", "b", 1)]
        self.told(nodes, nodes, [0, 1, 2])

    def test_what_is_kept(self):
        nodes = [BACK, ("say", "x", 0), ("say", "b", 3), ("wait", 2, ((key(1), 5), (key(2), 0)), 0), STOP, ("call", 3, 2)]
        new = [("call", 1, 2), ("wait", 2, ((key(1), 0), (key(2), 3)), 3), ("say", "b", 1), BACK]
        graph = (BOXES, nodes, 5)
        told = self.passed(cut, graph)
        self.assertEqual(told, ((BOXES, new, 0), [3, None, 2, 1, None, 0]))


class ByChance(GraphCase):
    def test_graphs(self):
        maker = GraphMaker(101)
        large = fewer = 0
        for count in range(500):
            graph = maker.graph()
            told = self.passed(cut, graph)
            self.assertEqual(told, plain_cut(graph))
            large += self.does_the_same(graph, *told) > 3
            fewer += len(told[0][1]) < len(graph[1])
            self.assertEqual(cut(told[0]), (told[0], list(range(len(told[0][1])))))
        self.assertGreater(min(large, fewer), 80)

    def test_lowered_scripts(self):
        maker, chance = Maker(102), random.Random(102)
        count = fewer = 0
        while count < 120:
            script = maker.script()
            if not sound(script):
                continue
            count += 1
            graph = lowered(script)
            told = self.passed(cut, graph)
            self.assertEqual(told, plain_cut(graph))
            self.does_the_same(graph, *told, [chance_events(chance, 12) for row in range(3)])
            fewer += len(told[0][1]) < len(graph[1])
        self.assertGreater(fewer, 40)


if __name__ == "__main__":
    unittest.main()
