"""Points 2, 4, 21 and 23: graphs lowered from scripts."""

import copy
import random
import unittest

from callmill.errors import TooMany
from callmill.graphs import GraphMachine
from callmill.looker import sound
from callmill.lower import lowered
from callmill.machines import events_of, run
from callmill.papers import found_paper
from callmill.reader import read_script
from callmill.teller import Teller
from chance_scripts import Maker, chance_events
from graph_case import QUIET, GraphCase, key, plainly_right, word
from plain_teller import set_beside


def script_of(rows):
    """The script whose rows are parted by strokes."""
    return read_script("\n".join(row.strip() for row in rows.split("/")))


def event_of(text):
    """quiet, a figure for a key, a word."""
    if text == "quiet":
        return QUIET
    return key(int(text)) if text.isdigit() else word(text)


class Case(GraphCase):
    def told(self, rows, events, answer):
        """The run of the script's graph, turns parted by strokes; `over` at the end where it is over then."""
        script = script_of(rows)
        self.assertIs(sound(script), True)
        turns = [turn.split() for turn in answer.split("/")]
        ended = turns[-1][-1:] == ["over"]
        if ended:
            turns[-1].pop()
        row = [event_of(each) for each in events.split()]
        with self.subTest(rows=rows, events=events):
            graph = lowered(script)
            self.formed(graph)
            machine = GraphMachine(graph)
            self.assertEqual(run(machine, row), turns)
            standing = machine.begin()[1]
            for event in row:
                standing = machine.step(standing, event)[1]
            self.assertIs(machine.over(standing), ended)
            set_beside(self, machine, script, row)
            self.same_runs(Teller(script), machine, [row])

    def kinds(self, rows):
        """The kinds of the nodes, sorted."""
        return sorted(node[0] for node in lowered(script_of(rows))[1])


class Statements(Case):
    def test_the_empty_talk(self):
        self.told("talk main / end", "", "over")
        self.told("talk main / end", "1 quiet a", "/ / / over")

    def test_say_and_hand(self):
        self.told("talk main / say a / hand 3 b / say c / end", "", "a 3:b c over")

    def test_put(self):
        self.told("box a 3 / box b 5 / talk main / put a 7 / put b ( a - 3 ) / if a = 1 / say one / end / if b = 3 / "
                  "say three / end / end", "", "one three over")

    def test_test(self):
        for number, answer in ((0, "no b"), (1, "yes b")):
            self.told(f"box a 2 / talk main / put a {number} / if a = 1 / say yes / else / say no / end / say b / end",
                      "", answer + " over")
        self.told("talk main / if 1 = 1 / end / say b / end", "", "b over")
        self.told("talk main / if 1 = 2 / say a / end / say b / end", "", "b over")
        self.told("talk main / if 1 = 2 / else / if 1 < 2 / say a / end / say c / end / say b / end", "", "a c b over")

    def test_wait(self):
        rows = ("talk main / wait 2 / on other / say o / on key 1 / say k / on word yes / say w / on none / say n / end / "
                "say b / end")
        for events, answer in (("1", "/ k b over"), ("2", "/ o b over"), ("yes", "/ w b over"), ("no", "/ o b over"),
                               ("quiet", "/"), ("quiet quiet", "/ / n b over"), ("quiet 1", "/ / k b over")):
            self.told(rows, events, answer)

    def test_wait_without_a_branch_for_none(self):
        self.told("talk main / wait 3 / on key 1 / say k / end / say b / end", "quiet 2 yes", "/ / / b over")
        self.told("talk main / wait 1 / end / say b / end", "0", "/ b over")

    def test_wait_without_a_limit(self):
        rows = "talk main / wait 0 / on key 1 / say k / end / say b / end"
        self.told(rows, "quiet 2 yes " * 6, "/ " * 18)
        self.told(rows, "quiet 2 yes " * 6 + "1", "/ " * 19 + "k b over")

    def test_wait_with_no_branch_at_all(self):
        self.told("talk main / say a / wait 0 / end / say b / end", "quiet 1 a " * 5, "a " + "/ " * 15)

    def test_branches_without_statements(self):
        self.told("talk main / wait 2 / on key 1 / on none / on other / end / say b / end", "1", "/ b over")
        self.told("talk main / wait 2 / on key 1 / on none / on other / end / say b / end", "quiet quiet", "/ / b over")

    def test_loop(self):
        self.told("talk main / loop / say a / wait 1 / end / end / end", "quiet 1 a", "a / a / a / a")
        self.told("talk main / loop / wait 0 / on key 1 / say a / end / say b / end / end", "1 1 2 1", "/ a b / a b / / a b")

    def test_again_and_leave(self):
        rows = ("talk main / loop / say a / wait 0 / on key 1 / again / on key 2 / leave / on other / say o / end / say b / "
                "end / say c / end")
        self.told(rows, "1 3 1 2", "a / a / o b a / a / c over")

    def test_loops_within_loops(self):
        rows = ("talk main / loop / say a / loop / say b / wait 0 / on key 1 / again / on key 2 / leave / on key 3 / stop / "
                "end / say c / end / say d / wait 0 / on key 1 / again / on key 2 / leave / end / say e / end / say f / end")
        self.told(rows, "1 2 1 2 2", "a b / b / d / a b / d / f over")
        self.told(rows, "3", "a b / over")

    def test_loop_at_the_begin_of_a_loop(self):
        rows = "talk main / loop / loop / wait 0 / on key 1 / leave / on key 2 / say a / end / end / say b / end / end"
        self.told(rows, "2 1 1 2", "/ a / b / b / a")

    def test_what_only_leads_elsewhere(self):
        rows = ("talk main / loop / loop / loop / wait 0 / on key 1 / leave / on key 2 / again / on other / say o / end / "
                "again / end / leave / end / again / end / end")
        self.told(rows, "3 1 2 1 3", "/ o / / / / o")

    def test_back_and_stop(self):
        self.told("talk main / say a / back / say b / end", "", "a over")
        self.told("talk main / say a / stop / say b / end", "", "a over")
        self.told("talk main / call sub / say b / end / talk sub / say a / back / say c / end", "", "a b over")
        self.told("talk main / call sub / say b / end / talk sub / say a / stop / say c / end", "", "a over")
        self.told("talk main / call sub / say b / end / talk sub / loop / wait 0 / on key 1 / back / on other / stop / end / "
                  "end / end", "1", "/ b over")

    def test_call(self):
        rows = "talk main / call sub / say b / call sub / end / talk sub / say a / wait 1 / on key 1 / back / end / say c / end"
        self.told(rows, "1 quiet", "a / b a / c over")
        self.told(rows, "quiet 1", "a / c b a / over")

    def test_calls_of_earlier_talks(self):
        self.told("talk main / call d / say e / end / talk c / say b / wait 1 / end / end / talk d / say a / call c / "
                  "say d / end", "1", "a b / d e over")

    def test_calls_within_blocks(self):
        rows = ("talk main / loop / call sub / end / end / talk sub / wait 0 / on key 1 / call low / on key 2 / say b / end / "
                "end / talk low / say l / wait 1 / on none / call last / end / end / talk last / say z / end")
        self.told(rows, "1 1 2 1 quiet 2", "/ l / z / b / l / z / b")

    def test_the_empty_talk_called(self):
        self.told("talk main / call sub / say a / call sub / end / talk sub / end", "", "a over")

    def test_the_first_talk_begins_with_what_leads_elsewhere(self):
        self.told("talk main / loop / call sub / end / end / talk sub / loop / wait 1 / end / say a / leave / end / end",
                  "1 quiet", "/ a / a")

    def test_what_is_never_come_to(self):
        self.told("talk main / stop / loop / wait 0 / end / again / end / call sub / end / talk sub / say a / end / "
                  "talk never / call sub / loop / stop / again / end / end", "", "over")
        self.told("talk main / loop / wait 1 / end / leave / say a / loop / stop / leave / again / end / end / say b / end",
                  "1", "/ b over")

    def test_names_like_words_of_the_text(self):
        self.told("box loop 2 / talk end / put loop 1 / if loop = 1 / call back / end / end / talk back / say stop / end",
                  "", "stop over")


class Forms(Case):
    def test_a_node_for_each_statement_at_least(self):
        self.assertEqual([kind for kind in self.kinds("box a 2 / talk main / say a / hand 1 b / put a 1 / if a = 1 / end / "
                                                      "wait 1 / end / call sub / stop / end / talk sub / say x / end")
                          if kind != "back"], ["call", "hand", "put", "say", "say", "stop", "test", "wait"])

    def test_a_wait_of_no_limit_leads_to_itself(self):
        graph = lowered(script_of("talk main / say a / wait 0 / on key 1 / say b / end / say c / end"))
        waits = [(number, node) for number, node in enumerate(graph[1]) if node[0] == "wait"]
        self.assertEqual(len(waits), 1)
        self.assertEqual(waits[0][1][3], waits[0][0])

    def test_patterns_for_none_are_no_branches(self):
        graph = lowered(script_of("talk main / wait 4 / on word b / on none / say a / on key 2 / on other / end / end"))
        wait = [node for node in graph[1] if node[0] == "wait"][0]
        self.assertEqual(wait[1], 4)
        self.assertEqual([pattern for pattern, way in wait[2]], [word("b"), key(2), ("other",)])
        self.assertEqual(graph[1][wait[3]][:2], ("say", "a"))

    def test_the_boxes(self):
        graph = lowered(script_of("box b 2 / box a 5 / talk main / end"))
        self.assertEqual(graph[0], [("b", 2), ("a", 5)])

    def test_nothing_kept(self):
        script = script_of("box a 2 / talk main / loop / wait 1 / on key 1 / put a ( a + 1 ) / on other / call sub / end / "
                           "if a = 0 / say z / end / end / end / talk sub / say s / end")
        before = copy.deepcopy(script)
        graph = lowered(script)
        self.assertEqual(script, before)
        answer = copy.deepcopy(graph)
        graph[0].append("spoiled")
        graph[1].append("spoiled")
        self.assertEqual(script, before)
        graph = lowered(script)
        self.assertEqual(graph, answer)
        script[0].append(("b", 2))
        script[1][0][1][0][1].insert(0, ("say", "spoiled"))
        script[1][1][1].clear()
        script[1].pop()
        self.assertEqual(graph, answer)


class ByChance(Case):
    def scripts(self, seed, count):
        maker, chance = Maker(seed), random.Random(seed)
        found = 0
        while found < count:
            boxes, talks = maker.script()
            if found % 2:
                # So that talks call earlier ones, too.
                chance.shuffle(talks)
            if sound((boxes, talks)):
                found += 1
                yield (boxes, talks), chance

    def test_the_runs_of_the_teller(self):
        turns = 0
        kinds = {}
        for script, chance in self.scripts(41, 500):
            before = copy.deepcopy(script)
            graph = lowered(script)
            self.assertEqual(script, before)
            self.formed(graph)
            self.assertEqual(graph[0], script[0])
            self.never_for_ever(graph, chance)
            for node in graph[1]:
                kinds[node[0]] = kinds.get(node[0], 0) + 1
            machine = GraphMachine(graph)
            rows = [chance_events(chance, 15) for count in range(3)] + [[QUIET] * 12]
            self.same_runs(Teller(script), machine, rows)
            for row in rows:
                turns += set_beside(self, machine, script, row)[0]
        self.assertGreater(turns, 500)
        self.assertGreater(min(kinds[kind] for kind in ("say", "hand", "put", "test", "wait", "call", "back", "stop")), 100)

    def test_a_paper_is_found(self):
        found = 0
        for script, chance in self.scripts(42, 120):
            one, other, events = Teller(script), GraphMachine(lowered(script)), events_of(script)
            try:
                paper = found_paper(one, other, events)
            except TooMany:
                continue
            self.assertIs(plainly_right(one, other, events, paper), True)
            found += 1
        self.assertGreater(found, 60)


if __name__ == "__main__":
    unittest.main()
