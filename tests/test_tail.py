"""Points 2, 4, 24 and 27: calls behind which there is nothing to do are left out."""

import random
import unittest

from callmill.looker import sound
from callmill.lower import lowered
from callmill.tail import tail
from chance_graphs import GraphMaker
from chance_scripts import Maker, chance_events
from graph_case import GraphCase, key, word
from plain_passes import plain_tail

STOP, BACK = ("stop",), ("back",)
BOXES = [("a", 2)]
TEST = ("same", ("box", "a"), ("number", 1))


class Case(GraphCase):
    def told(self, nodes, new, stands_for, first=0, new_first=0):
        graph = (list(BOXES), nodes, first)
        with self.subTest(nodes=nodes):
            told = self.passed(tail, graph)
            self.assertEqual(told, ((BOXES, new, new_first), stands_for))
            self.does_the_same(graph, told[0], told[1])

    def stays(self, nodes):
        self.told(nodes, nodes, list(range(len(nodes))))


class LeftOut(Case):
    def test_a_call(self):
        nodes = [("say", "a", 1), ("call", 3, 2), BACK, ("wait", 1, ((key(1), 1), (key(2), 2)), 0)]
        self.told(nodes, [("say", "a", 2), BACK, ("wait", 1, ((key(1), 2), (key(2), 1)), 0)], [0, 2, 1, 2])

    def test_several_by_their_entries(self):
        nodes = [("say", "a", 3), ("call", 4, 5), ("call", 1, 5), ("call", 2, 5), ("wait", 1, ((key(1), 2), (key(2), 1)), 3),
                 BACK]
        self.told(nodes, [("say", "a", 1), ("wait", 1, ((key(1), 1), (key(2), 1)), 1), BACK], [0, 1, 1, 1, 1, 2])

    def test_the_first_one(self):
        self.told([("call", 1, 2), ("say", "a", 2), BACK], [("say", "a", 1), BACK], [0, 0, 1])
        self.told([("call", 3, 2), ("say", "a", 2), BACK, ("call", 1, 2)], [("say", "a", 1), BACK], [0, 0, 1, 0])
        self.told([BACK, ("say", "a", 0), ("call", 1, 0)], [BACK, ("say", "a", 0)], [0, 1, 1], 2, 1)

    def test_the_entry_is_a_back(self):
        self.told([("call", 1, 1), BACK], [BACK], [0, 0])
        self.told([("say", "a", 1), ("call", 2, 3), BACK, BACK], [("say", "a", 1), BACK, BACK], [0, 1, 1, 2])

    def test_the_entry_is_a_stop(self):
        self.told([("call", 2, 1), BACK, STOP], [BACK, STOP], [1, 0, 1], 0, 1)

    def test_what_leads_to_them(self):
        call = ("call", 8, 7)
        nodes = [("say", "a", 1), ("hand", 1, "b", 2), call, ("put", "a", ("number", 1), 2), ("test", TEST, 2, 3),
                 ("call", 2, 3), ("wait", 2, ((key(1), 2), (("other",), 3)), 2), BACK,
                 ("wait", 0, ((key(1), 4), (word("yes"), 6), (("other",), 7)), 8)]
        new = [("say", "a", 1), ("hand", 1, "b", 7), ("put", "a", ("number", 1), 7), ("test", TEST, 7, 2),
               ("call", 7, 2), ("wait", 2, ((key(1), 7), (("other",), 2)), 7), BACK,
               ("wait", 0, ((key(1), 3), (word("yes"), 5), (("other",), 6)), 7)]
        self.told(nodes, new, [0, 1, 7, 2, 3, 4, 5, 6, 7])

    def test_within_a_call_that_stays(self):
        nodes = [("call", 2, 1), ("say", "b", 3), ("call", 4, 3), BACK, ("wait", 1, ((key(1), 3), (key(2), 2)), 3)]
        self.told(nodes, [("call", 3, 1), ("say", "b", 2), BACK, ("wait", 1, ((key(1), 2), (key(2), 3)), 2)], [0, 1, 3, 2, 3])


class Stays(Case):
    def test_a_next_that_leads_to_a_back_through_another_node(self):
        wait = ("wait", 0, ((key(1), 2),), 3)
        self.stays([("call", 3, 1), ("say", "a", 2), BACK, wait])
        self.stays([("call", 3, 1), ("put", "a", ("number", 1), 2), BACK, wait])
        self.stays([("call", 3, 1), ("test", TEST, 2, 2), BACK, wait])

    def test_a_next_that_is_left_out_itself(self):
        nodes = [("call", 4, 1), ("call", 3, 2), BACK, ("say", "a", 2), ("wait", 0, ((key(1), 2),), 4)]
        self.told(nodes, [("call", 3, 2), BACK, ("say", "a", 1), ("wait", 0, ((key(1), 1),), 3)], [0, 2, 1, 2, 3])

    def test_a_next_that_is_left_out_with_a_back_for_its_entry(self):
        nodes = [("call", 3, 1), ("call", 2, 2), BACK, ("wait", 0, ((key(1), 2),), 3)]
        self.told(nodes, [("call", 2, 1), BACK, ("wait", 0, ((key(1), 1),), 2)], [0, 1, 1, 2])

    def test_a_next_that_is_a_stop(self):
        self.stays([("call", 2, 1), STOP, BACK])
        self.stays([("call", 2, 1), STOP, ("wait", 0, ((key(1), 1),), 2)])

    def test_an_entry_that_is_a_back(self):
        self.stays([("call", 1, 2), BACK, ("say", "a", 1)])

    def test_no_calls(self):
        self.stays([("say", "a", 1), ("hand", 2, "b", 2), ("wait", 3, ((key(1), 0),), 3), BACK])
        self.stays([BACK])


class ByChance(GraphCase):
    def test_graphs(self):
        maker = GraphMaker(81)
        large = fewer = 0
        for count in range(500):
            graph = maker.graph()
            told = self.passed(tail, graph)
            self.assertEqual(told, plain_tail(graph))
            large += self.does_the_same(graph, *told) > 3
            fewer += len(told[0][1]) < len(graph[1])
            self.never_for_ever(told[0], maker.chance)
        self.assertGreater(min(large, fewer), 60)

    def test_lowered_scripts(self):
        maker, chance = Maker(82), random.Random(82)
        count = fewer = 0
        while count < 150:
            script = maker.script()
            if not sound(script):
                continue
            count += 1
            graph = lowered(script)
            told = self.passed(tail, graph)
            self.assertEqual(told, plain_tail(graph))
            self.does_the_same(graph, *told, [chance_events(chance, 12) for row in range(3)])
            fewer += len(told[0][1]) < len(graph[1])
        self.assertGreater(fewer, 10)


if __name__ == "__main__":
    unittest.main()
