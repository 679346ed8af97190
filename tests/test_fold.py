"""Points 2, 4, 24 and 25: what hangs on no box is reckoned ahead."""

import random
import unittest

from callmill.fold import fold
from callmill.graphs import GraphMachine
from callmill.looker import sound
from callmill.lower import lowered
from chance_graphs import GraphMaker
from chance_scripts import Maker, chance_events
from graph_case import GraphCase, key, word
from plain_passes import plain_fold

A, B = ("box", "a"), ("box", "b")
BOXES = [("a", 3), ("b", 5)]
STOP, BACK = ("stop",), ("back",)


def n(number):
    return ("number", number)


def plus(one, other):
    return ("plus", one, other)


def less(one, other):
    return ("less", one, other)


def same(one, other):
    return ("same", one, other)


def under(one, other):
    return ("under", one, other)


def no(condition):
    return ("not", condition)


def both(one, other):
    return ("both", one, other)


YES, NO = same(n(1), n(1)), under(n(1), n(1))
OPEN, SHUT = same(A, n(1)), under(B, A)


class Case(GraphCase):
    def expression(self, expression, answer):
        """What the expression is made, put to a box, and on either side of a condition that is not known."""
        with self.subTest(expression=expression):
            nodes = [("put", "a", expression, 1), ("test", same(A, expression), 2, 0), ("test", under(expression, B), 3, 3),
                     ("wait", 1, ((key(1), 0),), 4), STOP]
            folded = [("put", "a", answer, 1), ("test", same(A, answer), 2, 0), ("test", under(answer, B), 3, 3)] + nodes[3:]
            told = self.passed(fold, (BOXES, nodes, 0))
            self.assertEqual(told, ((BOXES, folded, 0), [0, 1, 2, 3, 4]))

    def graph(self, nodes, folded, stands_for, first=0, new_first=0, boxes=tuple(BOXES)):
        graph = (list(boxes), nodes, first)
        with self.subTest(nodes=nodes):
            told = self.passed(fold, graph)
            self.assertEqual(told, ((list(boxes), folded, new_first), stands_for))
            self.does_the_same(graph, told[0], told[1])

    def known(self, condition, answer):
        """The condition is known: True, False, or it is made another one."""
        nodes = [("wait", 1, ((key(1), 1),), 3), ("test", condition, 2, 3), ("say", "yes", 0), ("say", "no", 4), STOP]
        if answer is True or answer is False:
            way = 1 if answer else 2
            folded = [("wait", 1, ((key(1), way),), 2), ("say", "yes", 0), ("say", "no", 3), STOP]
            self.graph(nodes, folded, [0, way, 1, 2, 3])
        else:
            folded = [nodes[0], ("test", answer, 2, 3)] + nodes[2:]
            self.graph(nodes, folded, [0, 1, 2, 3, 4])


class Expressions(Case):
    def test_numbers_and_boxes_stay(self):
        for number in range(10):
            self.expression(n(number), n(number))
        self.expression(A, A)

    def test_a_worth_from_0_to_9(self):
        for one in range(10):
            for other in range(10):
                self.expression(plus(n(one), n(other)), n(one + other) if one + other < 10 else plus(n(one), n(other)))
                self.expression(less(n(one), n(other)), n(one - other) if one >= other else less(n(one), n(other)))

    def test_several_within_one_another(self):
        self.expression(less(plus(n(9), n(9)), n(9)), n(9))
        self.expression(plus(less(n(0), n(5)), n(7)), n(2))
        self.expression(plus(plus(n(1), n(2)), plus(n(3), n(3))), n(9))
        self.expression(less(plus(n(9), n(9)), plus(n(9), n(9))), n(0))
        self.expression(less(less(plus(n(9), n(9)), n(4)), n(5)), n(9))

    def test_left_with_a_part_made_a_number(self):
        self.expression(plus(n(9), plus(n(1), n(2))), plus(n(9), n(3)))
        self.expression(plus(plus(n(4), n(5)), n(1)), plus(n(9), n(1)))
        self.expression(less(plus(n(9), n(9)), plus(n(1), n(1))), less(plus(n(9), n(9)), n(2)))
        self.expression(less(n(1), plus(n(1), n(1))), less(n(1), n(2)))
        self.expression(plus(less(plus(n(9), n(9)), n(9)), plus(n(9), n(9))), plus(n(9), plus(n(9), n(9))))

    def test_left_with_no_part_made_a_number(self):
        self.expression(plus(n(9), plus(n(9), n(9))), plus(n(9), plus(n(9), n(9))))

    def test_with_boxes(self):
        self.expression(plus(A, n(1)), plus(A, n(1)))
        self.expression(plus(A, plus(n(1), n(2))), plus(A, n(3)))
        self.expression(less(less(n(3), n(1)), B), less(n(2), B))
        self.expression(plus(plus(A, n(1)), n(2)), plus(plus(A, n(1)), n(2)))
        self.expression(less(A, A), less(A, A))
        self.expression(plus(plus(n(2), n(2)), plus(B, less(n(8), n(8)))), plus(n(4), plus(B, n(0))))

    def test_numbers_beyond_9(self):
        # No expression is made such a number, but one that is there stays a number.
        for expression, answer in ((n(12), n(12)), (plus(n(12), n(1)), plus(n(12), n(1))), (less(n(12), n(4)), n(8)),
                                   (plus(n(12), plus(n(1), n(1))), plus(n(12), n(2)))):
            told = fold((BOXES, [("put", "a", expression, 1), STOP], 0))
            self.assertEqual(told, ((BOXES, [("put", "a", answer, 1), STOP], 0), [0, 1]))

    def test_deep(self):
        self.expression(less(less(less(less(less(plus(n(9), n(9)), n(1)), n(2)), n(3)), n(4)), n(1)), n(7))


class Known(Case):
    def test_both_sides(self):
        for one in range(10):
            for other in range(10):
                self.known(same(n(one), n(other)), one == other)
                self.known(under(n(one), n(other)), one < other)

    def test_both_sides_made_numbers(self):
        self.known(same(plus(n(1), n(2)), n(3)), True)
        self.known(under(n(3), less(n(5), n(2))), False)
        self.known(under(less(plus(n(9), n(9)), n(9)), plus(n(9), n(0))), False)

    def test_sides_that_are_left(self):
        for condition in (same(A, n(1)), under(n(1), B), same(A, A), same(n(0), A), under(A, A)):
            self.known(condition, condition)
        self.known(same(plus(n(9), n(9)), plus(n(9), n(9))), same(plus(n(9), n(9)), plus(n(9), n(9))))
        self.known(under(less(n(0), n(1)), n(0)), under(less(n(0), n(1)), n(0)))
        self.known(under(n(1), plus(n(9), plus(n(1), n(1)))), under(n(1), plus(n(9), n(2))))

    def test_no(self):
        self.known(no(YES), False)
        self.known(no(NO), True)
        self.known(no(no(YES)), True)
        self.known(no(no(no(YES))), False)
        self.known(no(OPEN), no(OPEN))
        self.known(no(no(OPEN)), no(no(OPEN)))
        self.known(no(same(A, plus(n(1), n(0)))), no(OPEN))

    def test_both_of_known_ones(self):
        self.known(both(YES, YES), True)
        self.known(both(YES, NO), False)
        self.known(both(NO, YES), False)
        self.known(both(NO, NO), False)

    def test_both_with_one_that_does_not_hold(self):
        for other in (OPEN, SHUT, no(OPEN), both(OPEN, SHUT)):
            self.known(both(NO, other), False)
            self.known(both(other, NO), False)
            self.known(no(both(other, NO)), True)

    def test_both_with_one_that_holds(self):
        for other in (OPEN, SHUT, no(OPEN), both(OPEN, SHUT)):
            self.known(both(YES, other), other)
            self.known(both(other, YES), other)
            self.known(no(both(other, YES)), no(other))
        self.known(both(YES, under(plus(n(2), n(2)), A)), under(n(4), A))

    def test_both_of_none_that_is_known(self):
        self.known(both(OPEN, SHUT), both(OPEN, SHUT))
        self.known(both(OPEN, OPEN), both(OPEN, OPEN))
        self.known(both(OPEN, no(OPEN)), both(OPEN, no(OPEN)))
        self.known(both(same(A, less(n(3), n(2))), SHUT), both(OPEN, SHUT))

    def test_several_within_one_another(self):
        self.known(both(both(YES, OPEN), both(SHUT, YES)), both(OPEN, SHUT))
        self.known(both(both(YES, OPEN), both(SHUT, NO)), False)
        self.known(both(no(both(NO, OPEN)), no(no(YES))), True)
        self.known(no(both(no(NO), no(both(OPEN, NO)))), False)
        self.known(both(both(both(both(OPEN, YES), YES), YES), no(NO)), OPEN)


class LeftOut(Case):
    def test_several_one_behind_the_other(self):
        nodes = [("say", "a", 3), ("test", NO, 0, 4), STOP, ("test", YES, 1, 2), ("wait", 1, ((key(1), 3), (key(2), 1)), 3)]
        folded = [("say", "a", 2), STOP, ("wait", 1, ((key(1), 2), (key(2), 2)), 2)]
        self.graph(nodes, folded, [0, 2, 1, 2, 2])

    def test_the_first_one(self):
        self.graph([("test", YES, 1, 2), ("say", "a", 2), STOP], [("say", "a", 1), STOP], [0, 0, 1])
        self.graph([("test", YES, 2, 1), ("say", "a", 2), ("test", NO, 1, 3), STOP], [("say", "a", 1), STOP], [1, 0, 1, 1], 0, 1)
        self.graph([("say", "a", 2), ("test", NO, 2, 0), STOP], [("say", "a", 1), STOP], [0, 0, 1], 1, 0)

    def test_what_leads_to_them(self):
        test = ("test", YES, 7, 8)
        nodes = [("say", "a", 1), ("hand", 1, "b", 2), test, ("put", "a", n(1), 2), ("test", OPEN, 2, 3), ("call", 2, 2),
                 ("wait", 2, ((key(1), 2), (word("yes"), 3), (("other",), 2)), 2), ("wait", 0, ((key(1), 4), (key(2), 5),
                 (key(3), 6)), 7), BACK]
        folded = [("say", "a", 1), ("hand", 1, "b", 6), ("put", "a", n(1), 6), ("test", OPEN, 6, 2), ("call", 6, 6),
                  ("wait", 2, ((key(1), 6), (word("yes"), 2), (("other",), 6)), 6), ("wait", 0, ((key(1), 3), (key(2), 4),
                  (key(3), 5)), 6), BACK]
        graph = (BOXES, nodes, 0)
        told = self.passed(fold, graph)
        self.assertEqual(told, ((BOXES, folded, 0), [0, 1, 6, 2, 3, 4, 5, 6, 7]))
        self.same_runs(GraphMachine(graph), GraphMachine(told[0]), [chance_events(random.Random(5), 30)])

    def test_a_call_whose_next_leads_to_a_back(self):
        nodes = [("call", 3, 1), ("test", NO, 0, 2), BACK, ("wait", 0, ((key(1), 2),), 3)]
        self.graph(nodes, [("call", 2, 1), BACK, ("wait", 0, ((key(1), 1),), 2)], [0, 1, 1, 2])

    def test_a_call_whose_next_leads_to_a_back_within_another(self):
        nodes = [("call", 2, 1), ("say", "a", 4), ("call", 5, 3), ("test", YES, 4, 4), BACK, ("wait", 1, ((key(1), 4),), 4)]
        folded = [("call", 2, 1), ("say", "a", 3), ("call", 4, 3), BACK, ("wait", 1, ((key(1), 3),), 3)]
        self.graph(nodes, folded, [0, 1, 2, 3, 3, 4])

    def test_what_no_way_leads_to_is_folded_too(self):
        self.graph([STOP, ("test", YES, 2, 0), ("put", "a", plus(n(1), n(1)), 0)], [STOP, ("put", "a", n(2), 0)], [0, 1, 1])

    def test_the_way_that_is_not_taken(self):
        self.graph([("test", YES, 1, 2), STOP, ("say", "a", 1)], [STOP, ("say", "a", 0)], [0, 0, 1])
        self.graph([("test", NO, 1, 2), STOP, ("say", "a", 1)], [STOP, ("say", "a", 0)], [1, 0, 1], 0, 1)

    def test_a_test_of_one_way_that_is_not_known(self):
        nodes = [("test", OPEN, 1, 1), STOP]
        self.graph(nodes, nodes, [0, 1])

    def test_nothing_known(self):
        nodes = [("say", "a", 1), ("hand", 1, "b", 2), ("put", "a", plus(A, n(1)), 3), ("test", OPEN, 4, 5),
                 ("wait", 2, ((key(1), 0),), 6), ("call", 4, 6), BACK, STOP]
        self.graph(nodes, nodes, list(range(8)))
        self.graph(nodes, nodes, list(range(8)), 3, 3)
        self.graph([STOP], [STOP], [0], boxes=())

    def test_boxes_stay(self):
        self.graph([("test", OPEN, 1, 1), STOP], [("test", OPEN, 1, 1), STOP], [0, 1], boxes=[("z", 2), ("a", 2), ("y", 5)])
        self.graph([("test", both(OPEN, NO), 1, 1), STOP], [STOP], [0, 0], boxes=[("a", 2)])


class ByChance(GraphCase):
    def test_graphs(self):
        maker = GraphMaker(61)
        large = fewer = 0
        for count in range(500):
            graph = maker.graph()
            told = self.passed(fold, graph)
            self.assertEqual(told, plain_fold(graph))
            large += self.does_the_same(graph, *told) > 3
            fewer += len(told[0][1]) < len(graph[1])
            self.never_for_ever(told[0], maker.chance)
            self.assertEqual(fold(told[0]), (told[0], list(range(len(told[0][1])))))
        self.assertGreater(min(large, fewer), 80)

    def test_lowered_scripts(self):
        maker, chance = Maker(62), random.Random(62)
        count = fewer = 0
        while count < 120:
            script = maker.script()
            if not sound(script):
                continue
            count += 1
            graph = lowered(script)
            told = self.passed(fold, graph)
            self.assertEqual(told, plain_fold(graph))
            self.does_the_same(graph, *told, [chance_events(chance, 12) for row in range(3)])
            fewer += len(told[0][1]) < len(graph[1])
        self.assertGreater(fewer, 10)


if __name__ == "__main__":
    unittest.main()
