"""Points 2, 3, 4, 17, 18, 19 and 20: papers looked at, found, and told by a map."""

import copy
import itertools
import random
import unittest

from callmill.errors import MillError, NoForm, NoneYet, NoScript, TooMany
from callmill.graphs import GraphMachine
from callmill.looker import sound
from callmill.lower import lowered
from callmill.machines import Machine, events_of, standings
from callmill.papers import found_paper, map_paper, right_paper
from callmill.teller import Teller
from chance_graphs import GraphMaker
from chance_scripts import Maker
from graph_case import EVENTS, QUIET, GraphCase, few_standings, key, plainly_right, word

ONE, TWO, THREE = key(1), key(2), key(3)
KEYS = [QUIET, ONE]
STOP, BACK = ("stop",), ("back",)


class Drawn(Machine):
    """Goes by a dict of (standing, event) to (said, standing), else stays and says nothing."""

    def __init__(self, ways, first="a", said=(), last=()):
        self.ways, self.first, self.said, self.last = ways, first, list(said), last

    def begin(self):
        return (list(self.said), self.first)

    def step(self, standing, event):
        said, behind = self.ways.get((standing, event), ((), standing))
        return (list(said), behind)

    def over(self, standing):
        return standing in self.last

    def values(self, standing):
        return ()


class Counter(Machine):
    """Counts key 1 round to below a number; it says what says tells of the count, always in the very same list."""

    def __init__(self, rooms, says=lambda count: []):
        self.rooms, self.says, self.said = rooms, says, []

    def begin(self):
        self.said[:] = ["begin"]
        return (self.said, ("count", 0))

    def step(self, standing, event):
        count = (standing[1] + (event == ONE)) % self.rooms
        self.said[:] = self.says(count)
        return (self.said, ("count", count))

    def over(self, standing):
        return False

    def values(self, standing):
        return ()


def by_rest(rest):
    """Says the count's rest."""
    return lambda count: [str(count % rest)]


def counts(*pairs):
    return [(("count", one), ("count", other)) for one, other in pairs]


# Two that say a at each key and b at the third, then are over; one of numbers, one of other things, with more standings.
THREE_KEYS = {(0, ONE): (["a"], 1), (1, ONE): (["a"], 2), (2, ONE): (["b"], 3)}
MORE_KEYS = {
    (None, ONE): (["a"], ("x", True)), (None, QUIET): ([], "quiet"), ("quiet", ONE): (["a"], ("x", False)),
    (("x", True), ONE): (["a"], ()), (("x", False), ONE): (["a"], ()), ((), ONE): (["b"], "over"),
}


def three_keys(**changed):
    told = dict(first=0, last=(3,))
    told.update(changed)
    return Drawn(dict(THREE_KEYS), **told)


def more_keys(ways=(), **changed):
    told = dict(first=None, last=("over",))
    told.update(changed)
    return Drawn({**MORE_KEYS, **dict(ways)}, **told)


PAIRS = [(0, None), (0, "quiet"), (1, ("x", True)), (1, ("x", False)), (2, ()), (3, "over")]


class RightCase(unittest.TestCase):
    def told(self, one, other, paper, answer, events=tuple(KEYS)):
        before = list(paper)
        events = list(events)
        kept = list(events)
        with self.subTest(paper=paper):
            self.assertIs(right_paper(one, other, events, paper), answer)
            self.assertIs(plainly_right(one, other, events, before), answer)
            self.assertEqual(paper, before)
            self.assertEqual(events, kept)


class Right(RightCase):
    def test_like_machines(self):
        self.told(three_keys(), more_keys(), PAIRS, True)
        self.told(three_keys(), three_keys(), [(n, n) for n in range(4)], True)
        self.told(more_keys(), three_keys(), [(b, a) for a, b in PAIRS], True)

    def test_in_any_order(self):
        for paper in itertools.permutations(PAIRS):
            self.assertIs(right_paper(three_keys(), more_keys(), KEYS, list(paper)), True)

    def test_twice(self):
        self.told(three_keys(), more_keys(), PAIRS + PAIRS[2:4], True)
        self.told(three_keys(), more_keys(), PAIRS + PAIRS, True)

    def test_more_than_are_come_to(self):
        one, other = Drawn({("a", ONE): ([], "b"), ("b", ONE): ([], "a")}), Drawn({("a", ONE): ([], "b"), ("b", ONE): ([], "a")})
        self.told(one, other, [("a", "a"), ("b", "b")], True)
        self.told(one, other, [("a", "a"), ("b", "b"), ("a", "b"), ("b", "a")], True)
        self.told(one, other, [("a", "b"), ("a", "a"), ("b", "a"), ("b", "b")], True)

    def test_without_events(self):
        self.told(three_keys(), more_keys(), [(0, None)], True, [])
        self.told(three_keys(), more_keys(), PAIRS, True, [])

    def test_at_the_end_from_the_beginning_on(self):
        self.told(Drawn({}, 0, ["bye"], (0,)), Drawn({}, None, ["bye"], (None,)), [(0, None)], True)

    def test_by_these_events_alone(self):
        one = Drawn({("a", TWO): (["b"], "a")})
        other = Drawn({})
        self.told(one, other, [("a", "a")], True, [QUIET, ONE, THREE])
        self.told(one, other, [("a", "a")], False, [QUIET, ONE, THREE, TWO])
        self.told(one, other, [("a", "a")], False, [TWO, QUIET, ONE])

    def test_machines_that_tell_the_very_same_list_again(self):
        six = Counter(6, by_rest(2))
        self.assertIs(right_paper(six, Counter(2, by_rest(2)), KEYS, counts(*[(n, n % 2) for n in range(6)])), True)
        self.assertIs(right_paper(six, six, KEYS, counts(*[(n, n) for n in range(6)])), True)
        self.assertIs(right_paper(six, six, KEYS, counts(*[(n, n) for n in range(6)], (0, 2))), False)
        every = [(n, m) for n in range(6) for m in range(6)]
        self.assertIs(right_paper(six, six, KEYS, counts(*every)), False)
        self.assertIs(right_paper(six, six, KEYS, counts(*[(n, m) for n, m in every if (n - m) % 2 == 0])), True)

    def test_machines_that_share_the_very_same_list(self):
        class Sharing(Drawn):
            shared = []

            def begin(self):
                self.shared[:] = self.said
                return (self.shared, self.first)

            def step(self, standing, event):
                said, behind = Drawn.step(self, standing, event)
                self.shared[:] = said
                return (self.shared, behind)

        self.assertIs(right_paper(Sharing({}, said="a"), Sharing({}, said="a"), KEYS, [("a", "a")]), True)
        self.assertIs(right_paper(Sharing({}, said="a"), Sharing({}, said="b"), KEYS, [("a", "a")]), False)
        self.assertIs(right_paper(Sharing({}), Sharing({("a", ONE): (["b"], "a")}), KEYS, [("a", "a")]), False)
        self.assertIsNone(found_paper(Sharing({}, said="a"), Sharing({}, said="b"), KEYS))
        self.assertIsNone(found_paper(Sharing({}), Sharing({("a", ONE): (["b"], "a")}), KEYS))


class NotRight(RightCase):
    def test_without_tuples(self):
        self.told(three_keys(), more_keys(), [], False)
        self.told(three_keys(), more_keys(), [], False, [])
        self.told(Drawn({}, last=("a",)), Drawn({}, last=("a",)), [], False)

    def test_each_tuple_left_out(self):
        for place in range(len(PAIRS)):
            self.told(three_keys(), more_keys(), PAIRS[:place] + PAIRS[place + 1:], False)

    def test_the_beginning_left_out_where_nothing_leads_to_it(self):
        one = Drawn({("a", ONE): ([], "b"), ("a", QUIET): ([], "b")})
        self.told(one, one, [("a", "a"), ("b", "b")], True)
        self.told(one, one, [("b", "b")], False)

    def test_one_of_the_beginnings_in_each_of_two_tuples(self):
        one = Drawn({("a", QUIET): ([], "b"), ("a", ONE): ([], "b")})
        self.told(one, one, [("a", "b"), ("b", "a"), ("b", "b")], False)

    def test_one_over_and_one_not(self):
        self.told(three_keys(last=()), more_keys(), PAIRS, False)
        self.told(three_keys(), more_keys(last=()), PAIRS, False)
        self.told(three_keys(), more_keys(last=("over", ())), PAIRS, False)
        self.told(Drawn({}), Drawn({}, last=("a",)), [("a", "a")], False)
        self.told(Drawn({}), Drawn({}, last=("a",)), [("a", "a")], False, [])

    def test_one_over_and_one_not_in_a_tuple_that_is_not_come_to(self):
        # Both say nothing at all, so nothing but being over parts c from the others.
        one = Drawn({("a", ONE): ([], "c")}, last=("c",))
        self.told(one, one, [("a", "a"), ("c", "c")], True)
        self.told(one, one, [("a", "a"), ("c", "c"), ("a", "c")], False)
        self.told(one, one, [("c", "a"), ("a", "a"), ("c", "c")], False)

    def test_beginnings_that_say_other_things(self):
        for said, beside in ((["a"], []), ([], ["a"]), (["a"], ["b"]), (["a", "b"], ["b", "a"]), (["a"], ["a", "a"])):
            self.told(three_keys(said=said), more_keys(said=beside), PAIRS, False)
            self.told(three_keys(said=said), more_keys(said=said), PAIRS, True)
            self.told(Drawn({}, said=said), Drawn({}, said=beside), [("a", "a")], False, [])

    def test_a_step_that_says_other_things(self):
        for way in MORE_KEYS:
            said, behind = MORE_KEYS[way]
            for other in (["c"], said + ["a"], []) if said else (["a"],):
                self.told(three_keys(), more_keys({way: (other, behind)}), PAIRS, False)
        self.told(three_keys(), more_keys({(("x", False), QUIET): (["c"], ("x", False))}), PAIRS, False)

    def test_the_last_event_alone(self):
        one, other = Drawn({("a", THREE): (["b"], "a")}), Drawn({("a", THREE): (["c"], "a")})
        self.told(one, other, [("a", "a")], False, [QUIET, ONE, TWO, THREE])
        self.told(one, other, [("a", "a")], True, [QUIET, ONE, TWO])

    def test_a_step_that_leads_elsewhere(self):
        self.told(three_keys(), more_keys({(("x", False), ONE): (["a"], ("x", True))}), PAIRS, False)
        self.told(three_keys(), more_keys({("quiet", QUIET): ([], ())}), PAIRS, False)

    def test_a_tuple_that_is_not_come_to(self):
        self.told(three_keys(), more_keys(), PAIRS + [(1, "quiet")], False)
        self.told(three_keys(), more_keys(), PAIRS + [(2, None)], False)
        self.told(three_keys(), more_keys(), [(2, None)] + PAIRS, False)


class RightOfThese(GraphCase):
    def test_a_teller_and_a_graph(self):
        body = [("say", "a"), ("wait", 2, [(ONE, [("say", "b")]), (("none",), [("stop",)])]), ("say", "c")]
        script = ([], [("main", body)])
        teller, graph = Teller(script), GraphMachine(lowered(script))
        events = events_of(script)
        ones = [standing for standing, over in standings(teller, events)]
        others = [standing for standing, over in standings(graph, events)]
        paper = list(zip(ones, others))
        self.assertEqual(len(paper), 3)
        self.assertIs(right_paper(teller, graph, events, paper), True)
        for place in range(3):
            self.assertIs(right_paper(teller, graph, events, paper[:place] + paper[place + 1:]), False)
        self.assertIs(right_paper(teller, graph, events, list(zip(ones, reversed(others)))), False)
        self.assertIs(right_paper(graph, teller, events, [(b, a) for a, b in paper]), True)

    def test_papers_spoiled_by_chance(self):
        maker, chance = GraphMaker(51), random.Random(51)
        right = wrong = 0
        for count in range(300):
            machine = GraphMachine(maker.graph())
            if few_standings(machine, EVENTS) is None:
                continue
            paper = found_paper(machine, machine, EVENTS)
            self.assertIs(right_paper(machine, machine, EVENTS, paper), True)
            standing = [a for a, b in paper]
            for place in range(4):
                spoiled = list(paper)
                if chance.random() < 0.5:
                    spoiled.pop(chance.randrange(len(spoiled)))
                else:
                    spoiled.insert(chance.randrange(len(spoiled) + 1), (chance.choice(standing), chance.choice(standing)))
                answer = plainly_right(machine, machine, EVENTS, spoiled)
                self.assertIs(right_paper(machine, machine, EVENTS, spoiled), answer)
                right += answer
                wrong += not answer
        self.assertGreater(min(right, wrong), 100)


class FoundCase(unittest.TestCase):
    def found(self, one, other, events=tuple(KEYS)):
        """A right paper is found, whichever; tells it."""
        events = list(events)
        kept = list(events)
        for first, second in ((other, one), (one, other)):
            paper = found_paper(first, second, events)
            self.assertIs(type(paper), list)
            for pair in paper:
                self.assertIs(type(pair), tuple)
                self.assertEqual(len(pair), 2)
            self.assertIs(plainly_right(first, second, events, paper), True)
            self.assertIs(right_paper(first, second, events, paper), True)
        answer = list(paper)
        paper.append("spoiled")
        self.assertEqual(found_paper(one, other, events), answer)
        self.assertEqual(events, kept)
        return answer

    def parted(self, one, other, events=tuple(KEYS)):
        self.assertIsNone(found_paper(one, other, list(events)))
        self.assertIsNone(found_paper(other, one, list(events)))

    def too_many(self, one, other, events=tuple(KEYS)):
        events = list(events)
        kept = list(events)
        for first, second in ((one, other), (other, one)):
            with self.assertRaises(TooMany) as taken:
                found_paper(first, second, events)
            self.assertEqual(events, kept)
            self.assertIsInstance(taken.exception, MillError)
            self.assertIs(type(taken.exception).__bases__[0], MillError)
            self.assertNotIsInstance(taken.exception, (NoScript, NoForm, NoneYet))


class Found(FoundCase):
    def test_where_the_runs_are_the_same(self):
        self.found(three_keys(), more_keys())
        self.found(three_keys(), three_keys())
        self.found(Drawn({}, 0, ["bye"], (0,)), Drawn({}, None, ["bye"], (None,)))
        self.found(three_keys(), more_keys(), [])

    def test_of_machines_with_other_numbers_of_standings(self):
        self.found(Counter(6, by_rest(2)), Counter(4, by_rest(2)))
        self.found(Counter(5, by_rest(1)), Counter(7, by_rest(1)))

    def test_of_a_machine_and_itself(self):
        six = Counter(6, by_rest(3))
        self.found(six, six)

    def test_by_these_events_alone(self):
        one, other = Drawn({("a", TWO): (["b"], "a")}), Drawn({})
        self.found(one, other, [QUIET, ONE])
        self.parted(one, other, [QUIET, ONE, TWO])


class NoneFound(FoundCase):
    def test_parted_at_the_beginning(self):
        for said, beside in ((["a"], []), (["a"], ["b"]), (["a", "b"], ["b", "a"])):
            self.parted(three_keys(said=said), more_keys(said=beside))
            self.parted(three_keys(said=said), more_keys(said=beside), [])

    def test_parted_at_the_beginning_by_being_over(self):
        self.parted(Drawn({}), Drawn({}, last=("a",)))
        self.parted(Drawn({}), Drawn({}, last=("a",)), [])

    def test_parted_later(self):
        for way in MORE_KEYS:
            said, behind = MORE_KEYS[way]
            self.parted(three_keys(), more_keys({way: (said + ["c"], behind)}))
        self.parted(three_keys(), more_keys({("over", ONE): (["c"], "over")}))
        self.parted(Counter(6, by_rest(2)), Counter(6, by_rest(3)))
        six = Counter(6, by_rest(3))
        self.parted(six, Counter(5, by_rest(3)))

    def test_parted_only_by_being_over(self):
        self.parted(three_keys(), more_keys(last=()))
        self.parted(three_keys(), more_keys(last=("over", ("x", False))))
        self.parted(three_keys(last=(2, 3)), more_keys())

    def test_parted_by_the_last_event_of_a_long_row(self):
        long = {(n, ONE): ([], n + 1) for n in range(500)}
        self.found(Drawn(long, 0), Drawn(dict(long), 0))
        self.parted(Drawn(long, 0), Drawn({**long, (500, ONE): (["b"], 500)}, 0))
        self.parted(Drawn(long, 0), Drawn(long, 0, last=(500,)))

    def test_parted_and_later_over_both(self):
        one = Drawn({("a", ONE): ([], "b"), ("b", ONE): ([], "c")}, last=("c",))
        other = Drawn({("a", ONE): ([], "b"), ("b", ONE): ([], "c")}, last=("b", "c"))
        self.parted(one, other)


def quiet_ring(rooms, ways=()):
    """Counts key 1 round, silently, with other ways besides."""
    ring = {(n, ONE): ([], (n + 1) % rooms) for n in range(rooms)}
    ring.update(dict(ways))
    return Drawn(ring, 0)


class TooManyFound(FoundCase):
    def test_the_standings_of_one(self):
        self.found(quiet_ring(2000), quiet_ring(1))
        self.too_many(quiet_ring(2001), quiet_ring(1))
        self.too_many(quiet_ring(2001), quiet_ring(2001))

    def test_the_standings_of_one_ahead_of_none(self):
        large = quiet_ring(2001)
        self.too_many(large, Drawn({}, 0, ["b"]))
        self.too_many(large, Drawn({}, 0, last=(0,)))
        self.too_many(large, quiet_ring(1, {(0, ONE): (["b"], 0)}))
        self.parted(quiet_ring(2000), Drawn({}, 0, ["b"]))
        self.parted(quiet_ring(2000), Drawn({}, 0, last=(0,)))

    def test_the_pairs(self):
        self.assertEqual(len(self.found(quiet_ring(16), quiet_ring(125))), 2000)
        self.too_many(quiet_ring(3), quiet_ring(667))
        self.too_many(quiet_ring(40), quiet_ring(51))

    def test_the_pairs_ahead_of_none(self):
        for number in (0, 20, 39):
            self.too_many(quiet_ring(40, {(number, TWO): (["b"], number)}), quiet_ring(51), [QUIET, TWO, ONE])
            self.too_many(quiet_ring(40, {(number, TWO): (["b"], number)}), quiet_ring(51), [QUIET, ONE, TWO])

    def test_no_more_pairs_than_are_taken_and_a_parting(self):
        self.parted(quiet_ring(16, {(0, TWO): (["b"], 0)}), quiet_ring(125), [QUIET, TWO, ONE])
        self.parted(quiet_ring(16, {(15, TWO): (["b"], 0)}), quiet_ring(125), [QUIET, ONE, TWO])

    def test_pairs_behind_a_parting_do_not_count(self):
        one, other = quiet_ring(40, {("a", ONE): (["b"], 0)}), quiet_ring(51, {("a", ONE): (["c"], 0)})
        one.first = other.first = "a"
        self.parted(one, other)
        one, other = quiet_ring(40), quiet_ring(51)
        one.said = ["b"]
        self.parted(one, other)
        one, other = quiet_ring(40, {("a", ONE): ([], 0)}), quiet_ring(51, {("a", ONE): ([], 0)})
        one.first = other.first = "a"
        one.last = ("a",)
        self.parted(one, other)

    def test_by_these_events_alone(self):
        self.found(quiet_ring(2001), quiet_ring(3), [QUIET, TWO])
        self.found(quiet_ring(40), quiet_ring(51), [QUIET])


class ByMap(GraphCase):
    def told(self, one, other, stands_for, events, answer):
        before = copy.deepcopy((one, other, stands_for, events))
        paper = map_paper(one, other, stands_for, events)
        self.assertEqual(paper, answer)
        self.assertIs(type(paper), list)
        paper.append("spoiled")
        self.assertEqual(map_paper(one, other, stands_for, events), answer)
        self.assertEqual((one, other, stands_for, events), before)

    def test_the_same_graph(self):
        graph = ([], [("wait", 2, ((ONE, 1),), 2), ("say", "a", 0), STOP], 0)
        self.told(graph, graph, [0, 1, 2], KEYS, [
            ((0, (), (), 2), (0, (), (), 2)), ((0, (), (), 1), (0, (), (), 1)), (None, None)])

    def test_other_numbers(self):
        one = ([], [("wait", 2, ((ONE, 1),), 2), ("wait", 0, ((ONE, 0),), 1), STOP], 0)
        other = ([], [STOP, ("wait", 0, ((ONE, 2),), 1), ("wait", 2, ((ONE, 1),), 0)], 2)
        self.told(one, other, [2, 1, 0], KEYS, [
            ((0, (), (), 2), (2, (), (), 2)), ((0, (), (), 1), (2, (), (), 1)), ((1, (), (), 0), (1, (), (), 0)),
            (None, None)])

    def test_in_the_order_of_the_standings(self):
        one = ([], [("wait", 0, ((ONE, 1), (TWO, 2)), 0), ("wait", 0, ((ONE, 3),), 1), ("wait", 0, ((ONE, 0),), 2), STOP], 0)
        self.told(one, one, [0, 1, 2, 3], [QUIET, ONE, TWO], [
            ((0, (), (), 0),) * 2, ((1, (), (), 0),) * 2, ((2, (), (), 0),) * 2, (None, None)])
        self.told(one, one, [0, 1, 2, 3], [QUIET, TWO, ONE], [
            ((0, (), (), 0),) * 2, ((2, (), (), 0),) * 2, ((1, (), (), 0),) * 2, (None, None)])

    def test_nodes_for_which_others_stand(self):
        one = ([], [("wait", 0, ((ONE, 1),), 0), ("wait", 0, ((ONE, 0),), 1)], 0)
        other = ([], [("wait", 0, ((ONE, 0),), 0)], 0)
        self.told(one, other, [0, 0], KEYS, [((0, (), (), 0), (0, (), (), 0)), ((1, (), (), 0), (0, (), (), 0))])

    def test_mapped_to_none(self):
        one = ([], [("wait", 2, ((ONE, 1),), 2), ("wait", 1, ((ONE, 0),), 1), STOP], 0)
        self.told(one, one, [0, None, 2], KEYS, [
            ((0, (), (), 2), (0, (), (), 2)), ((0, (), (), 1), (0, (), (), 1)), (None, None)])
        self.told(one, one, [None, 1, None], KEYS, [((1, (), (), 1), (1, (), (), 1)), (None, None)])
        self.told(one, one, [None, None, None], KEYS, [(None, None)])

    def test_over_alone(self):
        self.told(([], [STOP], 0), ([], [BACK], 0), [0], KEYS, [(None, None)])
        self.told(([], [STOP], 0), ([], [BACK], 0), [None], KEYS, [(None, None)])
        self.told(([("a", 2)], [STOP], 0), ([], [BACK], 0), [None], [], [(None, None)])

    def test_the_stack(self):
        # Three calls one within the other, each with something behind it.
        one = ([], [("call", 2, 1), ("say", "a", 7), ("call", 4, 3), ("say", "b", 7), ("call", 6, 5), ("say", "c", 7),
                    ("wait", 0, ((ONE, 7),), 6), BACK], 0)
        standing = (6, (1, 3, 5), (), 0)
        nodes = [("say", "c", 4), ("say", "b", 4), ("say", "a", 4), ("wait", 0, ((ONE, 4),), 3), BACK, STOP]
        other = ([], nodes, 3)
        for ways, stack in (((2, 1, 0), (2, 1, 0)), ((4, 1, 0), (1, 0)), ((2, 4, 0), (2, 0)), ((2, 1, 4), (2, 1)),
                            ((4, 4, 4), ()), ((None, 1, 0), (1, 0)), ((2, None, 0), (2, 0)), ((2, 1, None), (2, 1)),
                            ((None, 4, None), ()), ((5, 5, 0), (5, 5, 0)), ((1, 1, 1), (1, 1, 1)), ((0, 3, 5), (0, 3, 5))):
            stands_for = [None, ways[0], None, ways[1], None, ways[2], 3, 4]
            self.told(one, other, stands_for, KEYS, [(standing, (3, stack, (), 0)), (None, None)])

    def test_a_node_number_that_is_a_back_in_the_one_graph_alone(self):
        one = ([], [("call", 2, 1), ("say", "a", 3), ("wait", 0, ((ONE, 3),), 2), BACK], 0)
        other = ([], [BACK, ("wait", 0, ((ONE, 0),), 1), STOP, ("say", "a", 0)], 1)
        self.told(one, other, [1, 3, 1, 0], KEYS, [((2, (1,), (), 0), (1, (3,), (), 0)), (None, None)])

    def test_boxes_by_their_names(self):
        boxes = [("a", 2), ("b", 3), ("c", 4)]
        nodes = [("put", "a", ("number", 1), 1), ("put", "b", ("number", 2), 2), ("put", "c", ("number", 3), 3),
                 ("wait", 4, (), 3)]
        one = (boxes, nodes, 0)
        for names in [names for count in range(4) for names in itertools.permutations("abc", count)]:
            other = ([box for name in names for box in boxes if box[0] == name], [("wait", 4, (), 0)], 0)
            values = tuple({"a": 1, "b": 2, "c": 3}[name] for name in names)
            self.told(one, other, [None, None, None, 0], [QUIET], [
                ((3, (), (1, 2, 3), left), (0, (), values, left)) for left in (4, 3, 2, 1)])

    def test_values_in_the_order_of_the_standings(self):
        one = ([("a", 3)], [("wait", 0, ((ONE, 1),), 0), ("put", "a", ("plus", ("box", "a"), ("number", 1)), 0)], 0)
        self.told(one, one, [0, 1], KEYS, [((0, (), (n,), 0), (0, (), (n,), 0)) for n in range(3)])
        self.told(one, ([], [("wait", 0, (), 0)], 0), [0, None], KEYS, [((0, (), (n,), 0), (0, (), (), 0)) for n in range(3)])

    def test_the_events_that_are_handed_in_alone(self):
        graph = ([], [("wait", 0, ((ONE, 1),), 0), STOP], 0)
        self.told(graph, graph, [0, 1], [QUIET, TWO], [((0, (), (), 0),) * 2])
        self.told(graph, graph, [0, 1], [], [((0, (), (), 0),) * 2])

    def test_too_many(self):
        sizes = [("a", 5), ("b", 5), ("c", 5), ("d", 4), ("e", 4)]
        branches = [(key(n), n + 1) for n in range(5)]
        puts = [("put", name, ("plus", ("box", name), ("number", 1)), 0) for name, size in sizes]
        events = [QUIET] + [key(n) for n in range(6)]
        graph = (sizes, [("wait", 0, tuple(branches), 0)] + puts + [STOP], 0)
        small = ([], [("wait", 0, (), 0)], 0)
        self.assertEqual(len(map_paper(graph, graph, list(range(7)), events)), 2000)
        graph = (sizes, [("wait", 0, tuple(branches + [(key(5), 6)]), 0)] + puts + [STOP], 0)
        for other, stands_for in ((graph, list(range(7))), (small, [0] * 7), (small, [None] * 7)):
            before = copy.deepcopy((graph, other, stands_for, events))
            with self.assertRaises(TooMany):
                map_paper(graph, other, stands_for, events)
            self.assertEqual((graph, other, stands_for, events), before)
        self.assertEqual(len(map_paper(graph, graph, list(range(7)), events[:-1])), 2000)
        # Of the other one's standings nothing hangs on how many they are.
        self.assertEqual(map_paper(([], [STOP], 0), graph, [6], events), [(None, None)])

    def test_a_graph_that_keeps_more_and_more(self):
        graph = ([], [("wait", 0, ((ONE, 1),), 0), ("call", 0, 2), ("say", "a", 3), BACK], 0)
        with self.assertRaises(TooMany):
            map_paper(graph, graph, [0, 1, 2, 3], KEYS)


class ByChance(GraphCase):
    def test_papers_of_a_graph_and_itself(self):
        maker = GraphMaker(52)
        made = 0
        for count in range(400):
            graph = maker.graph()
            self.formed(graph)
            found = few_standings(GraphMachine(graph), EVENTS)
            if found is None:
                continue
            answer = [(standing, standing) for standing in found]
            made += len(answer) > 2
            self.assertEqual(map_paper(graph, graph, list(range(len(graph[1]))), EVENTS), answer)
        self.assertGreater(made, 100)

    def test_papers_of_scripts_and_of_their_changed_graphs(self):
        maker, chance = Maker(53), random.Random(53)
        alike = unlike = 0
        while alike + unlike < 250:
            script = maker.script()
            if not sound(script):
                continue
            boxes, nodes, first = lowered(script)
            for number, node in enumerate(nodes):
                if node[0] == "say" and chance.random() < 0.2:
                    nodes[number] = ("say", "changed", node[2])
                if node[0] == "back" and chance.random() < 0.2:
                    nodes[number] = STOP
            one, other, events = Teller(script), GraphMachine((boxes, nodes, first)), events_of(script)
            try:
                paper = found_paper(one, other, events)
            except TooMany:
                continue
            if paper is None:
                unlike += 1
                self.assertTrue(self.parts(one, other, events))
            else:
                alike += 1
                self.assertIs(plainly_right(one, other, events, paper), True)
        self.assertGreater(min(alike, unlike), 20)

    def parts(self, one, other, events):
        """Whether rows part both: each pair is gone on from, whether they part there or not."""
        pairs = [(one.begin(), other.begin())]
        known = {(pairs[0][0][1], pairs[0][1][1])}
        while pairs:
            (said, at), (said_beside, at_beside) = pairs.pop()
            if said != said_beside or one.over(at) is not other.over(at_beside):
                return True
            for event in events:
                told = (one.step(at, event), other.step(at_beside, event))
                if told[0][0] != told[1][0]:
                    return True
                if (told[0][1], told[1][1]) not in known:
                    known.add((told[0][1], told[1][1]))
                    pairs.append(told)
        return False


class Words(unittest.TestCase):
    def test_words_and_keys_that_no_branch_has(self):
        one = ([], [("wait", 0, ((("other",), 1), (word("yes"), 0)), 0), ("say", "o", 0)], 0)
        self.assertEqual(len(found_paper(GraphMachine(one), GraphMachine(one), EVENTS)), 1)


if __name__ == "__main__":
    unittest.main()
