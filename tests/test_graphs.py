"""Points 2, 13, 14, 15, 16, 21 and 22: graphs and their machine."""

import copy
import random
import unittest

from callmill.graphs import GraphMachine, next_ones
from callmill.looker import sound
from callmill.machines import Machine, events_of, run, standings
from chance_scripts import Maker, chance_events
from plain_teller import Lowering, set_beside

QUIET = ("quiet",)
A, ONE = ("box", "a"), ("number", 1)
MORE = ("plus", A, ONE)
A_IS_1 = ("same", A, ONE)
STOP, BACK = ("stop",), ("back",)
YES = ("word", "yes")


def key(k):
    return ("key", k)


def led(machine, events):
    """The standing to which the events lead."""
    standing = machine.begin()[1]
    for event in events:
        standing = machine.step(standing, event)[1]
    return standing


class NextOnes(unittest.TestCase):
    def told(self, node, answer):
        with self.subTest(node=node):
            got = next_ones(node)
            self.assertEqual(got, answer)
            self.assertIs(type(got), list)
            got.append("spoiled")
            self.assertEqual(next_ones(node), answer)
            for number in answer:
                self.assertIs(type(number), int)

    def test_say_hand_and_put(self):
        self.told(("say", "a", 3), [3])
        self.told(("hand", 5, "a", 0), [0])
        self.told(("put", "a", ("number", 7), 2), [2])

    def test_test(self):
        self.told(("test", A_IS_1, 4, 2), [4, 2])
        self.told(("test", A_IS_1, 4, 4), [4, 4])

    def test_wait(self):
        self.told(("wait", 0, (), 9), [9])
        self.told(("wait", 3, ((key(1), 7), (YES, 2), (("other",), 7)), 1), [7, 2, 7, 1])
        self.told(("wait", 0, ((key(1), 5),), 6), [5, 6])

    def test_call(self):
        self.told(("call", 8, 3), [8, 3])
        self.told(("call", 1, 1), [1, 1])

    def test_back_and_stop(self):
        self.told(BACK, [])
        self.told(STOP, [])


class Case(unittest.TestCase):
    def told(self, nodes, events, answer, boxes=(), first=0):
        """The run, turns parted by strokes; `over` at the end where it is over then."""
        turns = [turn.split() for turn in answer.split("/")]
        ended = turns[-1][-1:] == ["over"]
        if ended:
            turns[-1].pop()
        with self.subTest(nodes=nodes, events=events):
            machine = GraphMachine((list(boxes), list(nodes), first))
            self.assertEqual(run(machine, events), turns)
            self.assertIs(machine.over(led(machine, events)), ended)

    def stands(self, nodes, events, standing, boxes=(), first=0):
        """Where the events lead to."""
        with self.subTest(nodes=nodes, events=events):
            machine = GraphMachine((list(boxes), list(nodes), first))
            got = led(machine, events)
            self.assertEqual(got, standing)
            self.plain(got)
            self.assertEqual(machine.values(got), () if standing is None else standing[2])
            self.assertIs(machine.over(got), standing is None)

    def plain(self, standing):
        """Of tuples, whole numbers and None alone, no truths among them."""
        if isinstance(standing, tuple):
            for part in standing:
                self.plain(part)
        else:
            self.assertIn(type(standing), (int, type(None)))


class Ways(Case):
    def test_it_is_a_machine(self):
        self.assertIsInstance(GraphMachine(([], [STOP], 0)), Machine)

    def test_the_end_of_all(self):
        self.told([STOP], [], "over")
        self.told([BACK], [], "over")
        self.stands([STOP], [], None)
        self.stands([BACK], [QUIET, key(1)], None, [("a", 2)])

    def test_the_first_node(self):
        nodes = [("say", "a", 3), ("say", "b", 3), ("say", "c", 1), STOP]
        self.told(nodes, [], "a over", first=0)
        self.told(nodes, [], "c b over", first=2)
        self.told(nodes, [], "over", first=3)

    def test_say_and_hand(self):
        self.told([("hand", 0, "a", 2), STOP, ("say", "b", 3), ("hand", 9, "c", 1)], [], "0:a b 9:c over")

    def test_put(self):
        boxes = [("a", 2), ("b", 5), ("c", 3)]
        for n in range(10):
            for place, (name, size) in enumerate(boxes):
                values = [0, 0, 0]
                values[place] = n % size
                nodes = [("put", name, ("number", n), 1), ("wait", 0, (), 1)]
                self.stands(nodes, [], (1, (), tuple(values), 0), boxes)

    def test_put_of_a_worth_below_0(self):
        for size in range(2, 6):
            for n in range(10):
                rest = [place for place in range(size) if (place + n) % size == 0][0]
                nodes = [("put", "a", ("less", ("number", 0), ("number", n)), 1), ("wait", 0, (), 1)]
                self.stands(nodes, [], (1, (), (rest,), 0), [("a", size)])

    def test_put_by_the_values_of_then(self):
        nodes = [("put", "a", ("number", 3), 1), ("put", "b", ("less", A, ONE), 2),
                 ("put", "a", ("plus", A, ("box", "b")), 3), ("wait", 0, (), 3)]
        self.stands(nodes, [], (3, (), (0, 2), 0), [("a", 5), ("b", 5)])

    def test_test_both_ways(self):
        for n in range(5):
            nodes = [("put", "a", ("number", n), 1), ("test", ("under", A, ("number", 2)), 2, 3), ("say", "yes", 4),
                     ("say", "no", 4), STOP]
            self.told(nodes, [], ("yes" if n < 2 else "no") + " over", [("a", 5)])

    def test_round(self):
        nodes = [("wait", 0, ((("other",), 1),), 0), ("put", "a", MORE, 2), ("test", A_IS_1, 3, 4), ("say", "one", 0),
                 ("say", "none", 0)]
        self.told(nodes, [key(1), YES, QUIET, key(2)], "/ one / none / / one", [("a", 2)])


class Calls(Case):
    # 0 to 3 the first talk, 4 to 6 the called one.
    nodes = [("call", 4, 1), ("say", "b", 2), ("call", 4, 3), STOP, ("say", "c", 5), ("wait", 2, ((key(1), 6),), 7), BACK,
             ("say", "n", 6)]

    def test_goes_on_behind(self):
        self.told(self.nodes, [key(1), key(1)], "c / b c / over")
        self.told(self.nodes, [QUIET, QUIET, key(1)], "c / / n b c / over")

    def test_what_is_kept(self):
        self.stands(self.nodes, [], (5, (1,), (), 2))
        self.stands(self.nodes, [QUIET], (5, (1,), (), 1))
        self.stands(self.nodes, [key(1)], (5, (3,), (), 2))

    def test_the_last_one_kept_stands_behind(self):
        nodes = [("call", 2, 1), STOP, ("call", 4, 3), ("say", "b", 6), ("wait", 0, ((key(1), 5),), 4), BACK, BACK]
        self.stands(nodes, [], (4, (1, 3), (), 0))
        self.told(nodes, [key(1)], "/ b over")

    def test_a_call_whose_next_is_a_back_keeps_nothing(self):
        nodes = [("call", 2, 1), BACK, ("wait", 0, ((key(1), 3),), 2), BACK]
        self.stands(nodes, [], (2, (), (), 0))
        self.stands(nodes, [key(1)], None)
        nodes = [("call", 2, 1), STOP, ("call", 4, 3), BACK, ("wait", 1, ((key(1), 3),), 3)]
        self.stands(nodes, [], (4, (1,), (), 1))
        self.told(nodes, [key(1)], "/ over")

    def test_a_next_that_leads_to_a_back_is_kept(self):
        nodes = [("call", 3, 1), ("say", "a", 2), BACK, ("wait", 0, ((key(1), 2),), 3)]
        self.stands(nodes, [], (3, (1,), (), 0))
        self.told(nodes, [key(1)], "/ a over")
        nodes = [("call", 3, 1), ("call", 4, 2), BACK, ("wait", 0, ((key(1), 2),), 3), ("say", "b", 2)]
        self.stands(nodes, [], (3, (1,), (), 0))
        self.told(nodes, [key(1)], "/ b over")

    def test_a_next_that_is_a_stop_is_kept(self):
        self.stands([("call", 2, 1), STOP, ("wait", 0, (), 2)], [], (2, (1,), (), 0))

    def test_calls_of_itself_are_kept_each(self):
        nodes = [("wait", 0, ((key(1), 1), (key(2), 3)), 0), ("call", 0, 2), ("say", "b", 3), BACK]
        self.stands(nodes, [key(1)] * 3, (0, (2, 2, 2), (), 0))
        self.told(nodes, [key(1)] * 3 + [key(2)], "/ / / / b b b over")

    def test_stop_is_the_end_of_all(self):
        self.told([("call", 2, 1), ("say", "b", 2), STOP], [], "over")

    def test_back_with_nothing_kept(self):
        self.told([("say", "a", 1), BACK], [], "a over")


class Waits(Case):
    nodes = [("wait", 2, ((("other",), 1), (key(1), 2), (YES, 3)), 4), ("say", "o", 0), ("say", "k", 0), ("say", "w", 0),
             ("say", "n", 0)]
    without = [("wait", 3, ((key(1), 1), (YES, 2)), 3), ("say", "k", 0), ("say", "w", 0), ("say", "n", 4), STOP]
    endless = [("wait", 0, ((key(1), 1), (YES, 2)), 0), ("say", "k", 0), ("say", "w", 3), STOP]

    def test_the_very_pattern_ahead_of_other(self):
        self.told(self.nodes, [key(1), key(2), YES, ("word", "no"), ("word", "other"), ("word", "none")],
                  "/ k / o / w / o / o / o")

    def test_other_is_for_no_quiet(self):
        self.told(self.nodes, [QUIET, QUIET, QUIET, key(5), QUIET], "/ / n / / o /")

    def test_a_turn_goes_by(self):
        self.told(self.without, [QUIET, key(2), ("word", "no")], "/ / / n over")
        self.told(self.without, [QUIET, key(2), key(1), QUIET, QUIET, YES], "/ / / k / / / w")
        self.stands(self.without, [], (0, (), (), 3))
        self.stands(self.without, [key(0)], (0, (), (), 2))
        self.stands(self.without, [key(0), QUIET], (0, (), (), 1))
        self.stands(self.without, [key(0), QUIET, key(1)], (0, (), (), 3))
        self.stands(self.without, [key(0), QUIET, ("word", "no")], None)

    def test_without_a_limit(self):
        events = [QUIET, key(2), ("word", "no")] * 7
        self.told(self.endless, events + [key(1)] + events + [YES], "/ " * 22 + "k" + " / " * 22 + "w over")
        self.stands(self.endless, events, (0, (), (), 0))

    def test_each_limit(self):
        for limit in range(1, 10):
            nodes = [("wait", limit, (), 1), STOP]
            for count in range(limit):
                self.stands(nodes, [QUIET] * count, (0, (), (), limit - count))
            self.stands(nodes, [QUIET] * limit, None)

    def test_a_none_that_is_the_wait_itself(self):
        nodes = [("wait", 2, (), 0)]
        self.stands(nodes, [QUIET], (0, (), (), 1))
        self.stands(nodes, [QUIET] * 2, (0, (), (), 2))
        self.stands(nodes, [QUIET] * 3, (0, (), (), 1))

    def test_a_branch_to_node_0(self):
        self.told([("say", "a", 1), ("wait", 1, ((key(1), 0),), 2), STOP], [key(1), key(1), QUIET], "a / a / a / over")

    def test_from_one_wait_to_another(self):
        nodes = [("wait", 1, ((key(1), 1),), 0), ("wait", 5, ((key(1), 0),), 0)]
        self.stands(nodes, [key(1)], (1, (), (), 5))
        self.stands(nodes, [key(1), QUIET], (1, (), (), 4))
        self.stands(nodes, [key(1), QUIET, key(1)], (0, (), (), 1))


class Over(Case):
    def test_each_step_says_nothing_and_leads_to_itself(self):
        machine = GraphMachine(([("a", 2)], [STOP], 0))
        for event in (QUIET, key(1), YES):
            said, standing = machine.step(None, event)
            self.assertEqual((said, standing), ([], None))
            said.append("spoiled")
            self.assertEqual(machine.step(None, event), ([], None))
        self.assertIs(machine.over(None), True)
        self.assertEqual(machine.values(None), ())

    def test_a_stop_with_something_kept(self):
        self.stands([("call", 2, 1), ("say", "a", 2), STOP], [], None)


class Standings(Case):
    def test_as_they_are_found(self):
        nodes = [("wait", 2, ((key(1), 1),), 2), ("put", "a", MORE, 0), STOP]
        machine = GraphMachine(([("a", 2)], nodes, 0))
        self.assertEqual(standings(machine, [QUIET, key(1)]), [
            ((0, (), (0,), 2), False), ((0, (), (0,), 1), False), ((0, (), (1,), 2), False), (None, True),
            ((0, (), (1,), 1), False),
        ])


class NothingKept(Case):
    def test_the_graph_changed_afterwards(self):
        boxes = [("a", 3)]
        nodes = [("wait", 2, ((key(1), 1),), 3), ("put", "a", MORE, 2), ("say", "k", 0), ("say", "n", 4), STOP]
        graph = (boxes, nodes, 0)
        before = copy.deepcopy(graph)
        machine = GraphMachine(graph)
        events = [key(1), QUIET, key(1), QUIET, QUIET]
        answer = [[], ["k"], [], ["k"], [], ["n"]]
        self.assertEqual(run(machine, events), answer)
        self.assertEqual(graph, before)
        nodes[2] = ("say", "spoiled", 0)
        boxes[0] = ("a", 2)
        self.assertEqual(run(machine, events), answer)
        self.assertEqual(machine.values(led(machine, events[:3])), (2,))
        nodes.clear()
        boxes.clear()
        self.assertEqual(run(machine, events), answer)
        self.assertEqual(machine.values(led(machine, events[:3])), (2,))

    def test_the_same_step_asked_twice(self):
        nodes = [("say", "a", 1), ("wait", 1, ((key(1), 0),), 2), ("hand", 1, "b", 1)]
        machine = GraphMachine(([], nodes, 0))
        said, start = machine.begin()
        said.append("spoiled")
        self.assertEqual(machine.begin(), (["a"], start))
        for event, answer in ((QUIET, ["1:b"]), (key(1), ["a"]), (key(2), ["1:b"])):
            first = machine.step(start, event)
            first[0].append("spoiled")
            machine.step(start, YES)
            self.assertEqual(machine.step(start, event), (answer, first[1]))
        self.assertEqual(machine.begin(), (["a"], start))


class BesideAScript(unittest.TestCase):
    def test_lowered_from_scripts_made_by_chance(self):
        maker = Maker(31)
        chance = random.Random(31)
        count = turns = 0
        while count < 400:
            script = maker.script()
            if not sound(script):
                continue
            count += 1
            machine = GraphMachine(Lowering(script).graph())
            for row in range(4):
                turns += set_beside(self, machine, script, chance_events(chance, 15))[0]
            self.assertGreater(len(standings(machine, events_of(script))), 0)
        self.assertGreater(turns, 400)


if __name__ == "__main__":
    unittest.main()
