"""Points 2, 4, 24 and 28: nodes that do alike are one."""

import random
import unittest

from callmill.looker import sound
from callmill.lower import lowered
from callmill.share import share
from chance_graphs import GraphMaker
from chance_scripts import Maker, chance_events
from graph_case import GraphCase, key, word
from plain_passes import plain_share

STOP, BACK = ("stop",), ("back",)
BOXES = [("a", 2), ("b", 3)]
A, B, ONE = ("box", "a"), ("box", "b"), ("number", 1)
SAME = ("same", A, ONE)
OTHER = ("other",)


class Case(GraphCase):
    def told(self, nodes, new, stands_for, first=0, new_first=0):
        graph = (list(BOXES), nodes, first)
        with self.subTest(nodes=nodes):
            told = self.passed(share, graph)
            self.assertEqual(told, ((BOXES, new, new_first), stands_for))
            self.does_the_same(graph, told[0], told[1])

    def stays(self, nodes):
        self.told(nodes, nodes, list(range(len(nodes))))


class Alike(Case):
    def test_each_kind(self):
        for node, shared in (
                (("say", "a", 2), ("say", "a", 1)), (("hand", 1, "a", 3), ("hand", 1, "a", 2)),
                (("put", "a", ("plus", A, ONE), 2), ("put", "a", ("plus", A, ONE), 1)),
                (("test", SAME, 2, 3), ("test", SAME, 1, 2)), (("call", 2, 3), ("call", 1, 2)), (("call", 2, 2), ("call", 1, 1)),
                (("wait", 1, ((key(1), 2), (OTHER, 3)), 2), ("wait", 1, ((key(1), 1), (OTHER, 2)), 1)),
                (("wait", 3, (), 3), ("wait", 3, (), 2))):
            self.told([node, node, STOP, BACK], [shared, STOP, BACK], [0, 0, 1, 2])
            self.told([node, node, STOP, BACK], [shared, STOP, BACK], [0, 0, 1, 2], 1, 0)

    def test_back_and_stop(self):
        self.told([STOP, BACK, STOP, BACK], [STOP, BACK], [0, 1, 0, 1], 2, 0)
        self.told([BACK, STOP, BACK, STOP], [BACK, STOP], [0, 1, 0, 1], 3, 1)

    def test_next_ones_that_are_put_together(self):
        nodes = [("wait", 1, ((key(1), 1), (key(2), 2)), 0), ("say", "a", 3), ("say", "a", 4), ("say", "b", 5), ("say", "b", 6),
                 STOP, STOP]
        self.told(nodes, [("wait", 1, ((key(1), 1), (key(2), 1)), 0), ("say", "a", 2), ("say", "b", 3), STOP],
                  [0, 1, 1, 2, 2, 3, 3])

    def test_rounds_of_nodes(self):
        wait = ("wait", 1, ((key(1), 1),), 1)
        for count in (2, 3, 4, 6):
            nodes = []
            for place in range(count):
                nodes += [("say", "a", 2 * place + 1), ("wait", 1, ((key(1), 2 * (place + 1) % (2 * count)),), 2 * place)]
            self.told(nodes, [("say", "a", 1), ("wait", 1, ((key(1), 0),), 0)], [0, 1] * count)
        self.told([wait, ("wait", 1, ((key(1), 0),), 0)], [("wait", 1, ((key(1), 0),), 0)], [0, 0])

    def test_rounds_of_other_lengths(self):
        two = [("wait", 1, ((key(1), 1),), 0), ("wait", 1, ((key(1), 0),), 1)]
        three = [("wait", 1, ((key(1), 2 + (place + 1) % 3),), 2 + place) for place in range(3)]
        self.told(two + three, [("wait", 1, ((key(1), 0),), 0)], [0] * 5)

    def test_rounds_that_only_begin_alike(self):
        # A round of six and one of three that say the same, and one of two that does not.
        def ring(words, start):
            nodes = []
            for place, said in enumerate(words):
                behind = start + 2 * ((place + 1) % len(words))
                nodes += [("say", said, start + 2 * place + 1), ("wait", 0, ((OTHER, behind),), start + 2 * place + 1)]
            return nodes

        new = ring("abc", 0)
        self.told(ring("abcabc", 0) + ring("abc", 12), new, [0, 1, 2, 3, 4, 5] * 3)
        told = self.passed(share, (BOXES, ring("abcabc", 0) + ring("abcab", 12), 0))
        self.assertEqual(told[1], [0, 1, 2, 3, 4, 5] * 2 + list(range(6, 16)))

    def test_waits_of_no_limit(self):
        nodes = [("wait", 0, ((key(1), 1),), 0), ("say", "a", 2), ("wait", 0, ((key(1), 1),), 2), ("wait", 0, ((key(1), 1),), 3)]
        self.told(nodes, [("wait", 0, ((key(1), 1),), 0), ("say", "a", 0)], [0, 1, 0, 0])
        self.told([("wait", 0, (), 0), ("wait", 0, (), 1)], [("wait", 0, (), 0)], [0, 0], 1, 0)
        nodes = [("say", "a", 1), ("wait", 0, ((key(1), 2),), 1), ("wait", 0, ((key(1), 1),), 2)]
        self.told(nodes, [("say", "a", 1), ("wait", 0, ((key(1), 1),), 1)], [0, 1, 1])

    def test_numbered_by_the_first_old_node(self):
        nodes = [("say", "b", 4), ("say", "a", 3), ("say", "b", 5), BACK, STOP, STOP, ("say", "a", 7), BACK, ("say", "c", 0)]
        self.told(nodes, [("say", "b", 3), ("say", "a", 2), BACK, STOP, ("say", "c", 0)], [0, 1, 0, 2, 3, 3, 1, 2, 4], 8, 4)

    def test_calls(self):
        nodes = [("wait", 1, ((key(1), 1), (key(2), 2)), 0), ("call", 3, 5), ("call", 4, 6), ("say", "a", 7), ("say", "a", 8),
                 ("say", "b", 7), ("say", "b", 8), BACK, BACK]
        new = [("wait", 1, ((key(1), 1), (key(2), 1)), 0), ("call", 2, 3), ("say", "a", 4), ("say", "b", 4), BACK]
        self.told(nodes, new, [0, 1, 1, 2, 2, 3, 3, 4, 4])

    def test_what_is_kept(self):
        nodes = [("wait", 0, ((key(1), 1), (key(2), 2)), 0), ("call", 5, 3), ("call", 5, 4), ("say", "b", 0), ("say", "b", 0),
                 ("wait", 2, ((key(1), 6),), 5), BACK]
        new = [("wait", 0, ((key(1), 1), (key(2), 1)), 0), ("call", 3, 2), ("say", "b", 0), ("wait", 2, ((key(1), 4),), 3), BACK]
        self.told(nodes, new, [0, 1, 1, 2, 2, 3, 4])

    def test_what_no_way_leads_to(self):
        self.told([STOP, ("say", "a", 0), ("say", "a", 3), STOP], [STOP, ("say", "a", 0)], [0, 1, 1, 0])

    def test_long_rows(self):
        count = 2900
        told = share(([], [("say", "a", place + 1) for place in range(count)] + [STOP], 0))
        self.assertEqual(len(told[0][1]), count + 1)
        rows = [("say", "a", place + 1) for place in range(count // 2)] + [STOP]
        rows += [("say", "a", place + count // 2 + 2) for place in range(count // 2)] + [STOP]
        told = share(([], rows, 0))
        self.assertEqual(told, (([], rows[:count // 2 + 1], 0), list(range(count // 2 + 1)) * 2))


class Unlike(Case):
    def unlike(self, one, other):
        """Two nodes that lead to 2 and 3 are not put together; of a wait of no limit none is its own number."""
        for nodes in ([one, other, STOP, BACK], [other, one, STOP, BACK]):
            for number in (0, 1):
                if nodes[number][:2] == ("wait", 0):
                    nodes[number] = nodes[number][:3] + (number,)
            self.stays(nodes)

    def test_words_lines_and_names(self):
        self.unlike(("say", "a", 2), ("say", "b", 2))
        self.unlike(("hand", 1, "a", 2), ("hand", 1, "b", 2))
        self.unlike(("hand", 1, "a", 2), ("hand", 2, "a", 2))
        self.unlike(("put", "a", ONE, 2), ("put", "b", ONE, 2))

    def test_kinds(self):
        self.stays([("say", "a", 3), ("hand", 1, "a", 3), ("put", "a", ONE, 3), STOP, BACK, ("call", 3, 4),
                    ("test", SAME, 3, 4), ("wait", 1, ((key(1), 3),), 4)])
        self.stays([STOP, BACK])

    def test_expressions_and_conditions(self):
        self.unlike(("put", "a", ONE, 2), ("put", "a", A, 2))
        self.unlike(("put", "a", ("plus", A, ONE), 2), ("put", "a", ("plus", ONE, A), 2))
        self.unlike(("put", "a", ("plus", A, ONE), 2), ("put", "a", ("less", A, ONE), 2))
        self.unlike(("test", SAME, 2, 3), ("test", ("same", ONE, A), 2, 3))
        self.unlike(("test", SAME, 2, 3), ("test", ("not", ("not", SAME)), 2, 3))
        self.unlike(("test", SAME, 2, 3), ("test", ("same", B, ONE), 2, 3))

    def test_limits_and_patterns(self):
        self.unlike(("wait", 1, ((key(1), 2),), 3), ("wait", 2, ((key(1), 2),), 3))
        self.unlike(("wait", 1, ((key(1), 2),), 3), ("wait", 1, ((key(2), 2),), 3))
        self.unlike(("wait", 1, ((key(1), 2),), 3), ("wait", 1, ((word("a"), 2),), 3))
        self.unlike(("wait", 1, ((key(1), 2), (key(2), 2)), 3), ("wait", 1, ((key(2), 2), (key(1), 2)), 3))
        self.unlike(("wait", 1, ((key(1), 2), (key(2), 3)), 3), ("wait", 1, ((key(1), 2),), 3))
        self.unlike(("wait", 1, ((key(1), 2),), 2), ("wait", 1, (), 2))
        self.unlike(("wait", 0, ((key(1), 2),), None), ("wait", 0, ((key(2), 2),), None))

    def test_next_ones(self):
        self.unlike(("say", "a", 2), ("say", "a", 3))
        self.unlike(("hand", 1, "a", 2), ("hand", 1, "a", 3))
        self.unlike(("put", "a", ONE, 2), ("put", "a", ONE, 3))
        self.unlike(("test", SAME, 2, 3), ("test", SAME, 3, 2))
        self.unlike(("test", SAME, 2, 2), ("test", SAME, 2, 3))
        self.unlike(("test", SAME, 2, 2), ("test", SAME, 3, 2))
        self.unlike(("call", 2, 3), ("call", 2, 2))
        self.unlike(("call", 3, 2), ("call", 2, 2))
        self.unlike(("call", 2, 3), ("call", 3, 2))
        self.unlike(("wait", 1, ((key(1), 2),), 3), ("wait", 1, ((key(1), 2),), 2))
        self.unlike(("wait", 1, ((key(1), 2), (OTHER, 3)), 3), ("wait", 1, ((key(1), 2), (OTHER, 2)), 3))
        self.unlike(("wait", 0, ((key(1), 2), (OTHER, 3)), None), ("wait", 0, ((key(1), 2), (OTHER, 2)), None))

    def test_next_ones_of_next_ones(self):
        self.stays([("say", "a", 2), ("say", "a", 3), ("say", "b", 4), ("say", "b", 5), ("say", "c", 6), ("say", "c", 7), STOP,
                    BACK])

    def test_a_wait_of_a_limit_that_is_its_own_none_and_one_of_another(self):
        nodes = [("wait", 1, (), 0), ("wait", 1, (), 0)]
        self.told(nodes, [("wait", 1, (), 0)], [0, 0])
        self.stays([("wait", 1, (), 0), ("wait", 1, (), 2), STOP])


class ByChance(GraphCase):
    def test_graphs(self):
        maker = GraphMaker(91)
        large = fewer = 0
        for count in range(500):
            graph = maker.graph()
            told = self.passed(share, graph)
            self.assertEqual(told, plain_share(graph))
            large += self.does_the_same(graph, *told) > 3
            fewer += len(told[0][1]) < len(graph[1])
            self.never_for_ever(told[0], maker.chance)
            self.assertEqual(share(told[0]), (told[0], list(range(len(told[0][1])))))
        self.assertGreater(min(large, fewer), 80)

    def test_few_words_and_many_nodes(self):
        chance = random.Random(92)
        fewer = 0
        for count in range(300):
            size = chance.randrange(2, 40)
            nodes = []
            for number in range(size):
                kind = chance.choice(("call", "wait", "wait", "say", "say", "say", "stop" if number % 5 == 0 else "say"))
                ways = [chance.randrange(size // 2 if chance.random() < 0.8 else size) for place in range(2)] if size > 1 else []
                nodes.append({"call": ("call", *ways), "wait": ("wait", 1, ((key(1), ways[0]),), ways[1]),
                              "say": ("say", "a", ways[0]), "stop": STOP}[kind])
            # Such graphs may go on for ever within a turn, but nothing is stepped here.
            self.assertEqual(share(([], nodes, 0)), plain_share(([], nodes, 0)))
            fewer += 1 < len(share(([], nodes, 0))[0][1]) < size
        self.assertGreater(fewer, 80)

    def test_lowered_scripts(self):
        maker, chance = Maker(93), random.Random(93)
        count = fewer = 0
        while count < 120:
            script = maker.script()
            if not sound(script):
                continue
            count += 1
            graph = lowered(script)
            told = self.passed(share, graph)
            self.assertEqual(told, plain_share(graph))
            self.does_the_same(graph, *told, [chance_events(chance, 12) for row in range(3)])
            fewer += len(told[0][1]) < len(graph[1])
        self.assertGreater(fewer, 40)


if __name__ == "__main__":
    unittest.main()
