"""Points 2, 4, 24 and 26: boxes that nothing reads are left out."""

import random
import unittest

from callmill.deaf import deaf
from callmill.looker import sound
from callmill.lower import lowered
from chance_graphs import GraphMaker
from chance_scripts import Maker, chance_events
from graph_case import GraphCase, key, word
from plain_passes import plain_deaf

A, B, C = ("box", "a"), ("box", "b"), ("box", "c")
BOXES = [("a", 3), ("b", 5), ("c", 2)]
STOP, BACK = ("stop",), ("back",)
ONE = ("number", 1)
WAIT = ("wait", 1, ((key(1), 0),), 0)


def more(box):
    return ("plus", box, ONE)


class Case(GraphCase):
    def told(self, nodes, new, stands_for, left, first=0, new_first=0, boxes=tuple(BOXES)):
        graph = (list(boxes), nodes, first)
        with self.subTest(nodes=nodes):
            told = self.passed(deaf, graph)
            answer = [box for box in boxes if box[0] in left]
            self.assertEqual(told, ((answer, new, new_first), stands_for))
            self.does_the_same(graph, told[0], told[1])


class LeftOut(Case):
    def test_a_put(self):
        self.told([("say", "a", 1), ("put", "a", ONE, 2), ("wait", 1, ((key(1), 1),), 0)],
                  [("say", "a", 1), ("wait", 1, ((key(1), 1),), 0)], [0, 1, 1], "")

    def test_several_one_behind_the_other(self):
        nodes = [("say", "a", 3), ("put", "b", ONE, 4), STOP, ("put", "a", ONE, 1), ("put", "c", ONE, 5), WAIT]
        self.told(nodes, [("say", "a", 2), STOP, WAIT], [0, 2, 1, 2, 2, 2], "")

    def test_the_first_one(self):
        self.told([("put", "a", ONE, 1), STOP], [STOP], [0, 0], "")
        self.told([("say", "a", 1), STOP, ("put", "a", ONE, 3), ("put", "b", ONE, 0)], [("say", "a", 1), STOP], [0, 1, 0, 0], "",
                  2, 0)
        self.told([STOP, ("say", "a", 0), ("put", "a", ONE, 1)], [STOP, ("say", "a", 0)], [0, 1, 1], "", 2, 1)

    def test_what_leads_to_them(self):
        nodes = [("say", "a", 1), ("hand", 1, "b", 2), ("put", "a", ONE, 8), ("put", "b", more(B), 2),
                 ("test", ("same", B, ONE), 2, 3), ("call", 2, 2), ("wait", 2, ((key(1), 2), (("other",), 3)), 2), BACK,
                 ("wait", 0, ((key(1), 4), (key(2), 5), (word("yes"), 6), (("other",), 7)), 8)]
        new = [("say", "a", 1), ("hand", 1, "b", 7), ("put", "b", more(B), 7), ("test", ("same", B, ONE), 7, 2),
               ("call", 7, 7), ("wait", 2, ((key(1), 7), (("other",), 2)), 7), BACK,
               ("wait", 0, ((key(1), 3), (key(2), 4), (word("yes"), 5), (("other",), 6)), 7)]
        self.told(nodes, new, [0, 1, 7, 2, 3, 4, 5, 6, 7], "b")

    def test_boxes_to_which_nothing_is_put(self):
        self.told([STOP], [STOP], [0], "")
        self.told([STOP], [STOP], [0], "", boxes=())
        self.told([("test", ("same", B, B), 1, 1), STOP], [("test", ("same", B, B), 1, 1), STOP], [0, 1], "b")

    def test_each_set_of_boxes(self):
        for count in range(8):
            left = [box for place, box in enumerate("abc") if count >> place & 1]
            nodes = [("put", "a", ONE, 1), ("put", "b", ONE, 2), ("put", "c", ONE, 3), ("wait", 0, ((key(1), 4),), 3)]
            for place, name in enumerate(left):
                nodes.append(("test", ("under", ONE, ("box", name)), 5 + place, 5 + place))
            nodes.append(STOP)
            kept = [number for number, node in enumerate(nodes) if not (node[0] == "put" and node[1] not in left)]
            stands_for = [kept.index(min(other for other in kept if other >= number)) for number in range(len(nodes))]
            told = self.passed(deaf, (BOXES, nodes, 0))
            self.assertEqual(told[0][0], [box for box in BOXES if box[0] in left])
            self.assertEqual(told[1], stands_for)
            self.assertEqual([node[0] for node in told[0][1]], [nodes[number][0] for number in kept])
            self.does_the_same((BOXES, nodes, 0), *told)

    def test_a_call_whose_next_leads_to_a_back(self):
        nodes = [("call", 3, 1), ("put", "a", ONE, 2), BACK, ("wait", 0, ((key(1), 2),), 3)]
        self.told(nodes, [("call", 2, 1), BACK, ("wait", 0, ((key(1), 1),), 2)], [0, 1, 1, 2], "")

    def test_boxes_that_make_standings_unlike(self):
        nodes = [("wait", 2, ((key(1), 1), (key(2), 2)), 0), ("put", "a", ONE, 0), ("put", "c", more(C), 3),
                 ("test", ("same", C, ONE), 4, 0), ("say", "c", 0)]
        new = [("wait", 2, ((key(1), 0), (key(2), 1)), 0), ("put", "c", more(C), 2), ("test", ("same", C, ONE), 3, 0),
               ("say", "c", 0)]
        self.told(nodes, new, [0, 0, 1, 2, 3], "c")

    def test_a_word_said_is_no_reading(self):
        nodes = [("put", "a", ONE, 1), ("say", "a", 2), ("hand", 1, "a", 3), ("wait", 1, ((word("a"), 0),), 0)]
        self.told(nodes, [("say", "a", 1), ("hand", 1, "a", 2), ("wait", 1, ((word("a"), 0),), 0)], [0, 0, 1, 2], "")


class Stays(Case):
    def stays(self, nodes, left, boxes=tuple(BOXES)):
        self.told(nodes, nodes, list(range(len(nodes))), left, boxes=boxes)

    def test_read_by_its_own_expression(self):
        self.stays([("put", "a", more(A), 1), STOP], "a")
        self.stays([("put", "a", ("less", ONE, ("plus", ONE, A)), 1), ("wait", 0, ((key(1), 0),), 1)], "a")

    def test_read_in_conditions_alone(self):
        for condition in (("same", A, ONE), ("under", ONE, A), ("not", ("same", ONE, A)),
                          ("both", ("same", ONE, ONE), ("under", ONE, ("plus", ONE, A)))):
            self.stays([("put", "a", ONE, 1), ("test", condition, 2, 2), STOP], "a")

    def test_read_where_no_way_leads(self):
        self.stays([("put", "a", ONE, 1), STOP, ("test", ("same", A, A), 1, 1)], "a")

    def test_read_in_a_put_that_is_left_out(self):
        self.told([("put", "a", ONE, 1), ("put", "b", A, 2), STOP], [("put", "a", ONE, 1), STOP], [0, 1, 1], "a")
        self.told([("put", "c", B, 1), ("put", "b", A, 2), ("put", "a", ONE, 3), STOP],
                  [("put", "b", A, 1), ("put", "a", ONE, 2), STOP], [0, 0, 1, 2], "ab")

    def test_read_round(self):
        self.stays([("put", "a", B, 1), ("put", "b", A, 2), STOP], "ab")

    def test_nothing_deaf(self):
        nodes = [("put", "a", more(B), 1), ("test", ("same", A, C), 2, 3), ("say", "a", 3), ("wait", 0, ((key(1), 0),), 3)]
        self.stays(nodes, "abc")
        self.stays([("say", "a", 1), STOP], "", boxes=())
        self.stays([("test", ("under", C, A), 1, 1), STOP], "ac", boxes=[("c", 2), ("b", 3), ("a", 4)])


class ByChance(GraphCase):
    def test_graphs(self):
        maker = GraphMaker(71)
        large = fewer = 0
        for count in range(500):
            graph = maker.graph()
            told = self.passed(deaf, graph)
            self.assertEqual(told, plain_deaf(graph))
            large += self.does_the_same(graph, *told) > 3
            fewer += len(told[0][1]) < len(graph[1])
            self.never_for_ever(told[0], maker.chance)
        self.assertGreater(min(large, fewer), 80)

    def test_lowered_scripts(self):
        maker, chance = Maker(72), random.Random(72)
        count = fewer = 0
        while count < 200:
            script = maker.script()
            if not sound(script):
                continue
            count += 1
            graph = lowered(script)
            told = self.passed(deaf, graph)
            self.assertEqual(told, plain_deaf(graph))
            self.does_the_same(graph, *told, [chance_events(chance, 12) for row in range(3)])
            fewer += len(told[0][1]) < len(graph[1])
        self.assertGreater(fewer, 10)


if __name__ == "__main__":
    unittest.main()
