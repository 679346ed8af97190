"""Points 1, 4 and 19 over the whole program: all machines of a script say the same in the same turns."""

import random
import unittest

from callmill.alike import told_alike
from callmill.cut import cut
from callmill.deaf import deaf
from callmill.errors import TooMany
from callmill.fold import fold
from callmill.graphs import GraphMachine
from callmill.least import least_paper, least_table
from callmill.looker import sound
from callmill.lower import lowered
from callmill.machines import events_of, standings
from callmill.mill import milled, whole_paper
from callmill.packed import PackMachine
from callmill.packs import pack, unpacked, whole_pack
from callmill.papers import found_paper, map_paper, right_paper
from callmill.passes import all_passes
from callmill.reader import read_script
from callmill.share import share
from callmill.tables import TableMachine, table_of, table_paper
from callmill.tail import tail
from callmill.teller import Teller
from callmill.writer import shown
from chance_scripts import Maker, any_events
from graph_case import QUIET, GraphCase, key, plainly_right, word
from plain_teller import PlainTeller

PASSES = (fold, deaf, tail, share, cut)
ORDER = """box tries 3
box size 4
talk main
  say welcome
  call choose
  if size = 0
    say none
    stop
  end
  loop
    say pay
    wait 4
      on key 1
        hand 2 paid
        leave
      on key 9
        call choose
      on word help
        call help
      on none
        put tries ( tries + 1 )
        if tries = 0
          hand 2 lost
          stop
        end
    end
  end
  say bye
end
talk choose
  loop
    say size
    wait 2
      on key 0
        put size 0
        back
      on key 1
        put size ( size + 1 )
        if not size < 2
          say large
        end
      on key 2
        put size ( size - 1 )
      on word done
        leave
      on other
        call help
        again
      on none
        back
    end
  end
  if ( size = 3 and ( 1 + 1 ) = 2 )
    say most
  end
end
talk help
  say help
  if 2 < 1
    say never
  end
end"""


def steps_of(script):
    """All graphs, tables and packs of a script, as (machine, paper of the teller and it or of a step ahead, that step's machine)."""
    events = events_of(script)
    teller = Teller(script)
    graph = lowered(script)
    found = [(GraphMachine(graph), found_paper(teller, GraphMachine(graph), events), teller)]
    for one_pass in PASSES + (all_passes,):
        told = one_pass(graph)
        found.append((GraphMachine(told[0]), map_paper(graph, told[0], told[1], events), GraphMachine(graph)))
    behind = graph
    for one_pass in PASSES:
        told = one_pass(behind)
        found.append((GraphMachine(told[0]), map_paper(behind, told[0], told[1], events), GraphMachine(behind)))
        behind = told[0]
    for machine in (teller, GraphMachine(graph), GraphMachine(all_passes(graph)[0])):
        table = table_of(machine, events)
        found.append((TableMachine(table), table_paper(machine, events), machine))
        least = least_table(table)[0]
        found.append((TableMachine(least), least_paper(table), TableMachine(table)))
        for each in (table, least):
            found.append((PackMachine(pack(each)), [(room, room) for room in range(len(each[2]))], TableMachine(each)))
    found.append((PackMachine(milled(script)[4]), whole_paper(script), teller))
    return found


class WholeCase(GraphCase):
    def whole_script(self, script, rows):
        """Each step's paper is right, and each machine has the teller's runs; tells how many turns said something."""
        self.assertTrue(sound(script))
        self.assertEqual(read_script(shown(script)), script)
        events = events_of(script)
        teller = Teller(script)
        for machine, paper, ahead in steps_of(script):
            self.assertIs(right_paper(ahead, machine, events, paper), True)
            if len(paper) < 100:
                self.assertIs(plainly_right(ahead, machine, events, paper), True)
            self.same_runs(teller, machine, rows)
        table = table_of(teller, events)
        least = least_table(table)[0]
        # Whatever step it is made of, the least table is the same one.
        self.assertEqual(milled(script)[3], least)
        packed = pack(least)
        self.assertIs(whole_pack(*packed), True)
        self.assertEqual(unpacked(packed), least)
        self.assertEqual(told_alike(script, script)[0], "alike")
        turns = 0
        for row in rows:
            plain = PlainTeller(script)
            said = [plain.begin()] + [plain.turn(event) for event in row]
            turns += sum(each != [] for each in said)
            machine = PackMachine(packed)
            told = machine.begin()
            sayings = [told[0]]
            for event in row:
                told = machine.step(told[1], event)
                sayings.append(told[0])
            self.assertEqual(sayings, said)
            self.assertIs(machine.over(told[1]), plain.is_over)
        return turns


class Whole(WholeCase):
    def test_a_script(self):
        chance = random.Random(151)
        choices = [QUIET, QUIET, key(0), key(1), key(1), key(2), key(9), key(5), word("done"), word("help"), word("zz")]
        rows = [[chance.choice(choices) for place in range(30)] for count in range(60)]
        self.assertGreater(self.whole_script(read_script(ORDER), rows), 300)

    def test_a_run_of_it(self):
        script = read_script(ORDER)
        machine = PackMachine(milled(script)[4])
        told = machine.begin()
        said = [told[0]]
        for event in (key(1), key(1), key(7), key(1), word("done"), word("help"), QUIET, QUIET, key(1), key(1)):
            self.assertIs(machine.over(told[1]), False if len(said) < 10 else True)
            told = machine.step(told[1], event)
            said.append(told[0])
        self.assertEqual(said, [
            ["welcome", "size"], ["size"], ["large", "size"], ["help", "size"], ["large", "size"], ["most", "pay"], ["help", "pay"], [], [],
            ["2:paid", "bye"], []])

    def test_least_scripts(self):
        rows = [[], [QUIET] * 3, [key(1), word("a"), QUIET]]
        for text in ("talk main\nend", "talk main\nsay a\nend", "talk main\nloop\nwait 0\nend\nend\nend", "talk main\nwait 9\nend\nend",
                     "talk main\ncall sub\nend\ntalk sub\nstop\nend", "talk main\nback\nend\ntalk sub\nwait 1\non word q\nend\nend"):
            self.whole_script(read_script(text), rows)

    def test_all_keys_and_many_words(self):
        rows = ["talk main", "loop", "wait 2"] + [row for k in range(10) for row in ("on key %d" % k, "say k%s" % "abcdefghij"[k])]
        rows += [row for w in "abcdefghijklmnopqrst" for row in ("on word " + w, "say w" + w)] + ["on none", "say none", "end", "end", "end"]
        chance = random.Random(152)
        self.whole_script(read_script("\n".join(rows)), [any_events(chance, 20) for count in range(10)])

    def test_scripts_made_by_chance(self):
        maker, chance = Maker(153), random.Random(153)
        count = large = turns = 0
        while count < 300:
            script = maker.script()
            if not sound(script):
                continue
            try:
                few = len(standings(Teller(script), events_of(script)))
            except TooMany:
                continue
            if few > 150 or few < 3 and chance.random() < 0.7:
                continue
            count += 1
            large += few > 5
            turns += self.whole_script(script, [any_events(chance, 15) for row in range(3)] + [[QUIET] * 15])
        self.assertGreater(large, 60)
        self.assertGreater(turns, 1000)


if __name__ == "__main__":
    unittest.main()
