"""Points 2, 3, 4, 13, 18, 19, 31 and 32: tables and their machine."""

import copy
import random
import unittest

from callmill.errors import MillError, TooMany
from callmill.graphs import GraphMachine
from callmill.looker import sound
from callmill.lower import lowered
from callmill.machines import Machine, events_of, run, standings
from callmill.papers import right_paper
from callmill.reader import read_script
from callmill.tables import TableMachine, table_of, table_paper
from callmill.teller import Teller
from chance_graphs import GraphMaker
from chance_scripts import Maker, any_events
from chance_tables import TableMaker
from graph_case import EVENTS, QUIET, few_standings, key, plainly_right, word
from own_lists import lists_in, spoil, told_once
from plain_tables import plain_table
from table_case import TableCase

ONE, TWO = key(1), key(2)
YES, NO = word("yes"), word("no")
ASK = """talk main
  say hello
  wait 2
    on key 1
      hand 3 yes
    on none
      say bye
  end
end"""
COUNT = """box a 3
talk main
  loop
    wait 0
      on key 2
        put a ( a + 1 )
        if a = 0
          say round
        end
      on word yes
        stop
    end
  end
end"""


class Drawn(Machine):
    """Goes by a dict of (standing, event) to (said, standing), else stays and says nothing; it tells the very same list."""

    def __init__(self, ways, first, said=(), last=()):
        self.ways, self.first, self.said, self.last = ways, first, said, last
        self.kept = []

    def begin(self):
        self.kept[:] = self.said
        return (self.kept, self.first)

    def step(self, standing, event):
        said, behind = self.ways.get((standing, event), ((), standing))
        self.kept[:] = said
        return (self.kept, behind)

    def over(self, standing):
        return standing in self.last

    def values(self, standing):
        return ()


class Counter(Machine):
    """Counts key 1 up to a last number."""

    def __init__(self, last):
        self.last = last

    def begin(self):
        return (["0"], ("at", 0))

    def step(self, standing, event):
        if event == ONE and standing[1] < self.last:
            return ([], ("at", standing[1] + 1))
        return ([], standing)

    def over(self, standing):
        return standing[1] == self.last

    def values(self, standing):
        return ()


class OfCase(TableCase):
    def told(self, machine, events, answer=None):
        """The table of the machine, beside a plain one, and its paper."""
        plain, order = plain_table(machine, events)
        table = told_once(self, lambda handed: table_of(machine, handed), events)
        self.formed_table(table, events)
        self.assertEqual(repr(table), repr(plain))
        if answer is not None:
            self.assertEqual(repr(table), repr((events, *answer)))
        paper = told_once(self, lambda handed: table_paper(machine, handed), events)
        self.assertEqual(repr(paper), repr([(standing, number) for number, standing in enumerate(order)]))
        self.assertEqual([each[0] for each in paper], [each[0] for each in standings(machine, events)])
        beside = TableMachine(table)
        self.assertIs(plainly_right(machine, beside, events, paper), True)
        self.assertIs(right_paper(machine, beside, events, paper), True)
        return table


class TablesOf(OfCase):
    def test_a_teller(self):
        script = read_script(ASK)
        self.told(Teller(script), events_of(script), (["hello"], [
            (False, [([], 1), (["3:yes"], 2), ([], 1), ([], 1)]),
            (False, [(["bye"], 2), (["3:yes"], 2), (["bye"], 2), (["bye"], 2)]),
            (True, [([], 2), ([], 2), ([], 2), ([], 2)])]))

    def test_a_teller_with_boxes(self):
        script = read_script(COUNT)
        self.assertEqual(events_of(script), [QUIET, TWO, key(0), YES, word("a")])
        self.told(Teller(script), events_of(script), ([], [
            (False, [([], 0), ([], 1), ([], 0), ([], 2), ([], 0)]),
            (False, [([], 1), ([], 3), ([], 1), ([], 2), ([], 1)]),
            (True, [([], 2)] * 5),
            (False, [([], 3), (["round"], 0), ([], 3), ([], 2), ([], 3)])]))

    def test_by_other_lists_of_events(self):
        machine = Teller(read_script(COUNT))
        self.told(machine, [QUIET], ([], [(False, [([], 0)])]))
        self.told(machine, [QUIET, YES], ([], [(False, [([], 0), ([], 1)]), (True, [([], 1), ([], 1)])]))
        self.told(machine, [QUIET, key(7), TWO, word("x")], ([], [
            (False, [([], 0), ([], 0), ([], 1), ([], 0)]), (False, [([], 1), ([], 1), ([], 2), ([], 1)]),
            (False, [([], 2), ([], 2), (["round"], 0), ([], 2)])]))
        # The order of the events is that of the rooms, too.
        self.told(machine, [QUIET, YES, TWO])
        self.assertEqual([over for over, rows in table_of(machine, [QUIET, YES, TWO])[2]], [False, True, False, False])

    def test_over_from_the_beginning_on(self):
        for text, saying in (("talk main\nend", []), ("talk main\nsay a\nhand 0 b\nstop\nend", ["a", "0:b"])):
            script = read_script(text)
            self.told(Teller(script), events_of(script), (saying, [(True, [([], 0)] * 3)]))

    def test_a_graph(self):
        nodes = [("say", "hello", 1), ("wait", 2, ((ONE, 2),), 3), ("hand", 3, "yes", 4), ("say", "bye", 4), ("stop",)]
        self.told(GraphMachine(([], nodes, 0)), [QUIET, ONE], (["hello"], [
            (False, [([], 1), (["3:yes"], 2)]), (False, [(["bye"], 2), (["3:yes"], 2)]), (True, [([], 2)] * 2)]))
        self.told(GraphMachine(([], nodes, 1)), [QUIET, TWO], ([], [
            (False, [([], 1)] * 2), (False, [(["bye"], 2)] * 2), (True, [([], 2)] * 2)]))

    def test_another_machine(self):
        ways = {(None, ONE): (["x"], ()), (None, TWO): ([], "t"), ("t", QUIET): (["x", "x"], (0, "u")), ((), TWO): (["y"], None)}
        self.told(Drawn(ways, None, ["hi"], ((0, "u"),)), [QUIET, TWO, ONE], (["hi"], [
            (False, [([], 0), ([], 1), (["x"], 2)]),
            (False, [(["x", "x"], 3), ([], 1), ([], 1)]),
            (False, [([], 2), (["y"], 0), ([], 2)]),
            (True, [([], 3)] * 3)]))

    def test_a_table_by_its_own_events_and_by_others(self):
        table = ([QUIET, ONE, YES], ["hi"], [
            (False, [([], 3), (["a"], 0), ([], 2)]), (False, [(["never"], 0)] * 3), (True, [([], 2)] * 3),
            (False, [(["b"], 0), ([], 2), ([], 3)])])
        self.told(TableMachine(table), [QUIET, ONE, YES], (["hi"], [
            (False, [([], 1), (["a"], 0), ([], 2)]), (False, [(["b"], 0), ([], 2), ([], 1)]), (True, [([], 2)] * 3)]))
        self.told(TableMachine(table), [QUIET], (["hi"], [(False, [([], 1)]), (False, [(["b"], 0)])]))
        self.told(TableMachine(table), [QUIET, key(5), key(1), NO], (["hi"], [
            (False, [([], 1), (["a"], 0), (["a"], 0), ([], 2)]), (False, [(["b"], 0), ([], 2), ([], 2), ([], 1)]),
            (True, [([], 2)] * 4)]))

    def test_a_table_that_is_found_in_order_is_its_own(self):
        maker = TableMaker(61)
        for count in range(200):
            table = maker.table()
            told = self.told(TableMachine(table), table[0])
            self.assertEqual(repr(table_of(TableMachine(told), table[0])), repr(told))
            self.told(TableMachine(table), maker.events())

    def test_graphs_made_by_chance(self):
        maker = GraphMaker(62)
        made = 0
        for count in range(200):
            graph = maker.graph()
            if few_standings(GraphMachine(graph), EVENTS) is None:
                continue
            made += len(self.told(GraphMachine(graph), EVENTS)[2]) > 3
        self.assertGreater(made, 50)


class Most(unittest.TestCase):
    def test_just_two_thousand(self):
        table = table_of(Counter(1999), [QUIET, ONE])
        self.assertEqual(len(table[2]), 2000)
        self.assertEqual(table[1], ["0"])
        self.assertEqual(table[2][0], (False, [([], 0), ([], 1)]))
        self.assertEqual(table[2][1998], (False, [([], 1998), ([], 1999)]))
        self.assertEqual(table[2][1999], (True, [([], 1999), ([], 1999)]))
        self.assertEqual(table_paper(Counter(1999), [QUIET, ONE]), [(("at", number), number) for number in range(2000)])
        self.assertIs(right_paper(Counter(1999), TableMachine(table), [QUIET, ONE], table_paper(Counter(1999), [QUIET, ONE])), True)

    def test_one_more(self):
        for ask in (table_of, table_paper):
            events = [QUIET, ONE]
            with self.assertRaises(TooMany) as caught:
                ask(Counter(2000), events)
            self.assertIsInstance(caught.exception, MillError)
            self.assertEqual(events, [QUIET, ONE])
            # By other events there are few.
            self.assertEqual(len(ask(Counter(2000), [QUIET, TWO])), 3 if ask is table_of else 1)

    def test_a_script_of_too_many(self):
        boxes = "\n".join("box %s 5" % name for name in "abc")
        branches = "\n".join("on key %d\nput %s ( %s + 1 )" % (number, name, name) for number, name in enumerate("abc"))
        texts = ["on key %d\nwait 9\non key 0\nsay x\nend" % number for number in (3, 4)]
        for added, count in ((texts[:1], 125 + 125 * 9), (texts, None)):
            script = read_script("%s\ntalk main\nloop\nwait 0\n%s\n%s\nend\nend\nend" % (boxes, branches, "\n".join(added)))
            self.assertTrue(sound(script))
            if count is None:
                for ask in (table_of, table_paper):
                    with self.assertRaises(TooMany):
                        ask(Teller(script), events_of(script))
            else:
                self.assertEqual(len(table_of(Teller(script), events_of(script))[2]), count)
                self.assertEqual(len(table_paper(Teller(script), events_of(script))), count)


ROOMS = [
    (False, [(["q"], 0), (["one"], 1), (["two"], 2), (["yes"], 3), (["no"], 4)]),
    (False, [([], 2), (["a", "b"], 1), (["3:x"], 5), ([], 0), ([], 0)]),
    (True, [([], 2)] * 5),
    (False, [([], 3), ([], 3), ([], 3), ([], 3), (["n"], 3)]),
    (False, [(["lost"], 4), ([], 4), ([], 4), ([], 4), ([], 5)]),
    (False, [(["far"], 0), ([], 5), ([], 5), ([], 5), ([], 5)])]


class Machines(TableCase):
    def table(self, *events):
        return (list(events), ["hello", "you"], [(over, [(list(said), way) for said, way in rows[:len(events)]]) for over, rows in ROOMS])

    def test_the_beginning(self):
        machine = TableMachine(self.table(QUIET, ONE, TWO, YES, NO))
        self.assertIsInstance(machine, Machine)
        self.assertEqual(machine.begin(), (["hello", "you"], 0))

    def test_each_event_of_the_list_from_each_room(self):
        # Rooms that no way leads to, too.
        events = [QUIET, ONE, TWO, YES, NO]
        machine = TableMachine(self.table(*events))
        for number, (over, rows) in enumerate(ROOMS):
            self.assertIs(machine.over(number), over)
            self.assertEqual(machine.values(number), ())
            self.assertIs(type(machine.values(number)), tuple)
            for event, row in zip(events, rows):
                self.assertEqual(repr(machine.step(number, event)), repr(row))

    def told(self, events, event, place):
        """The event is taken as that at this place, in each room."""
        machine = TableMachine(self.table(*events))
        for number, (over, rows) in enumerate(ROOMS):
            self.assertEqual(machine.step(number, event), rows[place])

    def test_events_that_are_not_in_the_list(self):
        events = [QUIET, ONE, TWO, YES, NO]
        for event in (key(0), key(3), key(9)):
            self.told(events, event, 2)
        for event in (word("a"), word("zz"), word("quiet"), word("key"), word("other")):
            self.told(events, event, 4)

    def test_the_last_one_of_its_kind_whatever_the_order(self):
        for event in (key(0), key(5), key(9)):
            self.told([QUIET, TWO, ONE, NO, YES], event, 2)
            self.told([QUIET, key(8), key(4), key(6), YES], event, 3)
            self.told([QUIET, key(8), NO, YES], event, 1)
        for event in (word("a"), word("zz")):
            self.told([QUIET, TWO, ONE, NO, YES], event, 4)
            self.told([QUIET, TWO, YES, NO, word("b")], event, 4)
            self.told([QUIET, ONE, TWO, YES], event, 3)
            self.told([QUIET, NO, YES], event, 2)

    def test_none_of_its_kind(self):
        for event in (key(0), key(1), key(9)):
            self.told([QUIET, YES, NO], event, 0)
            self.told([QUIET], event, 0)
        for event in (word("a"), word("quiet"), word("yes")):
            self.told([QUIET, ONE, TWO], event, 0)
            self.told([QUIET], event, 0)

    def test_a_run(self):
        machine = TableMachine(self.table(QUIET, ONE, TWO, YES, NO))
        self.assertEqual(run(machine, [QUIET, ONE, ONE, key(7), QUIET, NO, QUIET]), [
            ["hello", "you"], ["q"], ["one"], ["a", "b"], ["3:x"], ["far"], ["no"], ["lost"]])
        self.assertEqual(run(machine, [TWO, QUIET, ONE, YES]), [["hello", "you"], ["two"], [], [], []])

    def test_changed_behind_the_making(self):
        table = self.table(QUIET, ONE, TWO, YES, NO)
        machine, before = TableMachine(table), copy.deepcopy(table)
        rows = [[QUIET, ONE, ONE, key(7), QUIET, NO, QUIET], [YES, NO], [TWO, QUIET]]
        runs = [run(machine, row) for row in rows]
        spoil(table)
        self.assertEqual([run(machine, row) for row in rows], runs)
        table = copy.deepcopy(before)
        machine = TableMachine(table)
        for part in table:
            part.clear()
        self.assertEqual([run(machine, row) for row in rows], runs)
        self.assertEqual([machine.over(number) for number in range(6)], [over for over, rows in ROOMS])

    def test_changed_in_part_behind_the_making(self):
        table = self.table(QUIET, ONE, TWO, YES, NO)
        machine = TableMachine(table)
        table[0][1], table[0][2] = TWO, ONE
        table[2][0], table[2][1] = table[2][1], table[2][0]
        table[2][3][1][4] = (["other"], 0)
        self.assertEqual(machine.step(0, ONE), (["one"], 1))
        self.assertEqual(machine.step(3, NO), (["n"], 3))

    def test_each_saying_is_a_new_list(self):
        machine = TableMachine(self.table(QUIET, ONE, TWO, YES, NO))
        machine.begin()[0].append("x")
        self.assertEqual(machine.begin(), (["hello", "you"], 0))
        for event in (QUIET, ONE, key(7), NO):
            for room in range(6):
                told = machine.step(room, event)
                before = copy.deepcopy(told)
                machine.step(room, event)[0].append("x")
                self.assertEqual(told, before)
                self.assertEqual(machine.step(room, event), before)

    def test_nothing_handed_in_is_changed(self):
        table = self.table(QUIET, ONE, TWO, YES, NO)
        before = copy.deepcopy(table)
        machine = TableMachine(table)
        spoil(machine.begin())
        spoil([machine.step(0, event) for event in table[0]])
        run(machine, [QUIET, ONE, key(4), NO])
        self.assertEqual(table, before)


class Scripts(TableCase):
    def test_the_runs_of_a_teller_and_its_table(self):
        maker, chance = Maker(63), random.Random(63)
        count = large = 0
        while count < 700:
            script = maker.script()
            if not sound(script):
                continue
            events = events_of(script)
            try:
                tables = [table_of(Teller(script), events), table_of(GraphMachine(lowered(script)), events)]
            except TooMany:
                continue
            count += 1
            large += len(tables[0][2]) > 3
            rows = [any_events(chance, 15) for row in range(6)] + [[QUIET] * 12]
            for table in tables:
                self.formed_table(table, events)
                self.same_runs(Teller(script), TableMachine(table), rows)
            paper = table_paper(Teller(script), events)
            self.assertIs(right_paper(Teller(script), TableMachine(tables[0]), events, paper), True)
            places = [id(each) for each in lists_in(tables[0])]
            self.assertEqual(len(places), len(set(places)))
        self.assertGreater(large, 150)


if __name__ == "__main__":
    unittest.main()
