"""Points 2, 3, 4, 19, 40 and 41: papers joined, and the mill."""

import copy
import itertools
import random
import unittest
from unittest import mock

import callmill.mill
from callmill.errors import MillError, TooMany
from callmill.graphs import GraphMachine
from callmill.least import least_paper, least_table
from callmill.looker import sound
from callmill.lower import lowered
from callmill.machines import events_of, standings
from callmill.mill import joined, milled, whole_paper
from callmill.packed import PackMachine
from callmill.packs import pack, whole_pack
from callmill.papers import found_paper, map_paper, right_paper
from callmill.passes import all_passes
from callmill.reader import read_script
from callmill.tables import TableMachine, table_of, table_paper
from callmill.teller import Teller
from chance_scripts import Maker, any_events
from chance_tables import TableMaker
from graph_case import QUIET, GraphCase, plainly_right
from own_lists import told_once


def plain_joined(paper, other):
    """Point 40, word by word."""
    found = []
    for a, b in paper:
        for middle, c in other:
            if middle == b and (a, c) not in found:
                found.append((a, c))
    return found


class Joined(unittest.TestCase):
    def told(self, paper, other, answer):
        told = told_once(self, joined, paper, other)
        self.assertIs(type(told), list)
        self.assertEqual(repr(told), repr(answer))
        self.assertEqual(repr(plain_joined(paper, other)), repr(answer))

    def test_one_by_one(self):
        self.told([(1, 2), (3, 4)], [(2, 5), (4, 6)], [(1, 5), (3, 6)])

    def test_without_tuples(self):
        self.told([], [], [])
        self.told([(1, 2)], [], [])
        self.told([], [(1, 2)], [])

    def test_nothing_in_the_middle(self):
        self.told([(1, 2)], [(1, 2)], [])
        self.told([(1, 2), (2, 3)], [(4, 5), (1, 2)], [])
        self.told([(1, 2), (2, 3)], [(4, 5), (3, 2)], [(2, 2)])

    def test_twice(self):
        self.told([(1, 2), (1, 2)], [(2, 3), (2, 3)], [(1, 3)])
        self.told([(1, 2), (1, 4)], [(2, 3), (4, 3)], [(1, 3)])
        self.told([(1, 2), (5, 2), (1, 4)], [(4, 6), (2, 3), (4, 3)], [(1, 3), (5, 3), (1, 6)])

    def test_several_on_either_side(self):
        self.told([(1, 0), (2, 0)], [(0, 7), (0, 8)], [(1, 7), (1, 8), (2, 7), (2, 8)])
        self.told([(1, 0), (1, 9)], [(9, 7), (0, 8), (0, 6)], [(1, 8), (1, 6), (1, 7)])
        self.told([(2, 0), (1, 0)], [(0, 8), (0, 7)], [(2, 8), (2, 7), (1, 8), (1, 7)])

    def test_the_order(self):
        # By the one's tuples, and for each by the other's, whatever stands in them.
        self.told([(3, 1), (2, 0), (1, 1)], [(0, 9), (1, 8), (0, 7), (1, 6)], [(3, 8), (3, 6), (2, 9), (2, 7), (1, 8), (1, 6)])
        self.told([(3, 1), (2, 0), (3, 0)], [(0, 9), (1, 8), (0, 8)], [(3, 8), (2, 9), (2, 8), (3, 9)])

    def test_standings_of_each_kind(self):
        kinds = [5, "5", (5,), None, (), "", ((5, ()), "x", None), (True, 0, "a")]
        for a, b, c in itertools.product(kinds, repeat=3):
            self.told([(a, b)], [(b, c)], [(a, c)])
        self.told([(a, b) for a in kinds for b in kinds[:1]], [(5, c) for c in kinds], [(a, c) for a in kinds for c in kinds])
        self.told([(1, each) for each in kinds], [(each, place) for place, each in enumerate(kinds)], [(1, place) for place in range(8)])

    def test_by_chance(self):
        chance = random.Random(111)
        for count in range(500):
            papers = [[(chance.randrange(4), chance.randrange(4)) for place in range(chance.randrange(9))] for side in range(2)]
            self.told(*papers, plain_joined(*papers))

    def test_many(self):
        one = [(n, n % 10) for n in range(2000)]
        other = [(n % 10, n) for n in range(200)]
        self.assertEqual(len(joined(one, other)), 2000 * 20)
        self.assertEqual(joined(one, other)[:3], [(0, 0), (0, 10), (0, 20)])

    def test_right_papers_joined_are_right(self):
        maker = TableMaker(112)
        for count in range(150):
            table = maker.table()
            events = table[0]
            least = least_table(table)[0]
            one, middle, other = TableMachine(table), TableMachine(least), PackMachine(pack(table))
            back = [(number, room) for room, number in least_paper(table)]
            self.assertIs(right_paper(middle, other, events, back), True)
            paper = joined(least_paper(table), back)
            self.assertIs(right_paper(one, other, events, paper), True)
            self.assertIs(plainly_right(one, other, events, paper), True)
            again = joined(back, paper)
            self.assertIs(right_paper(middle, other, events, again), True)


TEXT = """box tries 3
box deaf 4
talk main
  loop
    call ask
    if tries = 2
      leave
    end
  end
  say bye
end
talk ask
  say menu
  wait 3
    on key 1
      put tries ( tries + ( 2 - 1 ) )
      put deaf 3
    on word back
      back
    on other
      say what
    on none
      hand 2 late
  end
end"""


def counter(*more):
    """A script of three boxes of 5 that only puts read, with more branches."""
    rows = ["box a 5", "box b 5", "box c 5", "talk main", "loop", "wait 0"]
    for number, name in enumerate("abc", 1):
        rows += ["on key %d" % number, "put %s ( %s + 1 )" % (name, name)]
    return read_script("\n".join(rows + list(more) + ["end", "end", "end"]))


class MillCase(GraphCase):
    def milled(self, script):
        """What is milled, each part beside what the module of its name tells."""
        self.assertTrue(sound(script))
        told = told_once(self, milled, script)
        self.assertIs(type(told), tuple)
        self.assertEqual(len(told), 6)
        graph, small, table, least, packed, papers = told
        events = events_of(script)
        self.assertEqual(graph, lowered(script))
        passed = all_passes(graph)
        self.assertEqual(small, passed[0])
        self.assertEqual(table, table_of(GraphMachine(small), events))
        self.assertEqual(least, least_table(table)[0])
        self.assertEqual(packed, pack(least))
        self.assertIs(whole_pack(*packed), True)
        self.assertIs(type(papers), list)
        self.assertEqual(papers[1:], [
            map_paper(graph, small, passed[1], events), table_paper(GraphMachine(small), events), least_paper(table),
            [(room, room) for room in range(len(least[2]))]])
        machines = [Teller(script), GraphMachine(graph), GraphMachine(small), TableMachine(table), TableMachine(least), PackMachine(packed)]
        self.assertEqual(len(papers), 5)
        for one, other, paper in zip(machines, machines[1:], papers):
            self.assertIs(type(paper), list)
            self.assertIs(right_paper(one, other, events, paper), True)
            self.assertIs(plainly_right(one, other, events, paper), True)
        whole = told_once(self, whole_paper, script)
        self.assertIs(type(whole), list)
        self.assertIs(right_paper(machines[0], machines[5], events, whole), True)
        self.assertIs(plainly_right(machines[0], machines[5], events, whole), True)
        joined_up = papers[0]
        for paper in papers[1:]:
            joined_up = plain_joined(joined_up, paper)
        self.assertEqual(repr(whole), repr(joined_up))
        return told, machines


class Milled(MillCase):
    def test_a_script(self):
        script = read_script(TEXT)
        (graph, small, table, least, packed, papers), machines = self.milled(script)
        self.assertEqual(small[0], [("tries", 3)])
        self.assertLess(len(small[1]), len(graph[1]))
        # Three turns at each of two counts, and over.
        self.assertEqual(len(table[2]), 7)
        self.assertEqual(len(least[2]), 7)
        self.assertEqual(len(papers[0]), len(standings(Teller(script), events_of(script))))

    def test_the_least_scripts(self):
        for text in ("talk main\nend", "talk main\nsay a\nstop\nend", "talk main\nloop\nwait 0\nend\nend\nend", "box a 2\ntalk main\nput a 1\nend"):
            told, machines = self.milled(read_script(text))
            self.assertEqual(len(told[3][2]), 1)

    def test_a_least_table_that_is_smaller(self):
        # Turns that go by with nothing behind them tell nothing apart.
        script = read_script("talk main\nloop\nwait 3\non key 1\nsay a\non key 2\nstop\nend\nend\nend")
        told, machines = self.milled(script)
        self.assertEqual((len(told[2][2]), len(told[3][2])), (4, 2))

    def test_by_chance(self):
        maker, chance = Maker(113), random.Random(113)
        count = large = smaller = 0
        while count < 400:
            script = maker.script()
            if not sound(script):
                continue
            try:
                few = len(standings(Teller(script), events_of(script))) <= 80
            except TooMany:
                continue
            if not few:
                continue
            count += 1
            told, machines = self.milled(script)
            large += len(told[2][2]) > 3
            smaller += len(told[3][2]) < len(told[2][2])
            rows = [any_events(chance, 15) for row in range(3)] + [[QUIET] * 12]
            for machine in machines[1:]:
                self.same_runs(machines[0], machine, rows)
        self.assertGreater(large, 80)
        self.assertGreater(smaller, 10)


WAITS = ["on key 4", "wait 9", "on key 0", "end", "wait 6", "on key 0", "end"]


class Most(unittest.TestCase):
    def refused(self, script):
        self.assertTrue(sound(script))
        before = copy.deepcopy(script)
        for ask in (milled, whole_paper):
            with self.assertRaises(TooMany) as caught:
                ask(script)
            self.assertIsInstance(caught.exception, MillError)
            self.assertEqual(script, before)

    def test_just_two_thousand(self):
        script = counter(*WAITS)
        events = events_of(script)
        self.assertEqual(len(standings(Teller(script), events)), 2000)
        told = milled(script)
        self.assertEqual([len(paper) for paper in told[5]], [2000, 2000, len(told[2][2]), len(told[2][2]), len(told[3][2])])
        self.assertIs(right_paper(Teller(script), PackMachine(told[4]), events, whole_paper(script)), True)

    def test_one_more(self):
        self.refused(counter(*WAITS, "on key 5", "stop"))
        # The small graph keeps none of the boxes, since none is read, and would have few.
        rows = ["box a 5", "box b 5", "box c 5", "talk main", "loop", "wait 9"]
        for place, name in enumerate("abc"):
            rows += [row for number in range(3) for row in ("on key %d" % (3 * place + number), "put %s %d" % (name, number + 1))]
            rows += ["on word %s" % name, "put %s 4" % name]
        script = read_script("\n".join(rows + ["on other", "wait 9", "on key 0", "end", "end", "end", "end"]))
        self.assertLess(len(table_of(GraphMachine(all_passes(lowered(script))[0]), events_of(script))[2]), 100)

    def test_each_of_the_three_ways(self):
        script = counter(*WAITS, "on key 5", "if ( a = b and b = c )", "stop", "end")
        self.refused(script)
        with mock.patch.object(callmill.mill, "found_paper", lambda one, other, events: []):
            self.refused(script)
            with mock.patch.object(callmill.mill, "map_paper", lambda one, other, stands_for, events: []):
                self.refused(script)

        def too_many(*handed):
            raise TooMany("in a test")

        script = read_script(TEXT)
        for name in ("found_paper", "map_paper", "table_of"):
            with mock.patch.object(callmill.mill, name, too_many):
                self.refused(script)


class First(unittest.TestCase):
    def test_the_first_paper_is_one_that_is_found(self):
        script = read_script(TEXT)
        events, graph = events_of(script), lowered(script)
        self.assertEqual(milled(script)[5][0], found_paper(Teller(script), GraphMachine(graph), events))


if __name__ == "__main__":
    unittest.main()
