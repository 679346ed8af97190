"""Points 2, 4, 13, 19, 32, 38 and 39: the machine of packed tables."""

import copy
import random
import unittest

from callmill.errors import TooMany
from callmill.looker import sound
from callmill.machines import Machine, events_of, run, standings
from callmill.packed import PackMachine
from callmill.packs import pack, unpacked, whole_pack
from callmill.papers import right_paper
from callmill.tables import TableMachine, table_of
from callmill.teller import Teller
from chance_scripts import Maker, any_events
from chance_tables import TableMaker, loose_pack
from graph_case import QUIET, key, word
from own_lists import spoil
from table_case import TableCase

ONE, TWO = key(1), key(2)
YES, NO = word("yes"), word("no")
EVENTS = [QUIET, ONE, TWO, YES, NO]
ALL_EVENTS = [QUIET] + [key(k) for k in range(10)] + [word(w) for w in ("a", "b", "no", "yes", "zz", "quiet", "abcdefgh")]
ROOMS = [
    (False, [(["q"], 0), (["one"], 1), (["two"], 2), (["yes"], 3), (["no"], 4)]),
    (False, [([], 2), (["a", "b"], 1), (["3:x"], 5), ([], 0), ([], 0)]),
    (True, [([], 2)] * 5),
    (False, [([], 3), ([], 3), ([], 3), ([], 3), (["n"], 3)]),
    (False, [(["lost"], 4), ([], 4), ([], 4), ([], 4), ([], 5)]),
    (False, [(["far"], 0), ([], 5), ([], 5), ([], 5), ([], 5)])]


def table(events=tuple(EVENTS)):
    rooms = [(over, [(list(said), way) for said, way in rows[:len(events)]]) for over, rows in ROOMS]
    return (list(events), ["hello", "you"], rooms)


class Watched(list):
    """Cells that take no place but those that there are."""

    def __getitem__(self, place):
        if isinstance(place, slice):
            assert place.step is None and 0 <= (place.start or 0) <= len(self)
            assert place.stop is None or 0 <= place.stop <= len(self)
        else:
            assert 0 <= place < len(self)
        return list.__getitem__(self, place)


class Steps(TableCase):
    def beside(self, told, packed):
        """The pack's machine does in each room, at each event, what the table tells."""
        machine, plain = PackMachine(packed), TableMachine(told)
        self.assertEqual(repr(machine.begin()), repr((told[1], 0)))
        for room in range(len(told[2])):
            self.assertIs(machine.over(room), told[2][room][0])
            self.assertEqual(machine.values(room), ())
            self.assertIs(type(machine.values(room)), tuple)
            for place, event in enumerate(told[0]):
                self.assertEqual(repr(machine.step(room, event)), repr(told[2][room][1][place]))
            for event in ALL_EVENTS:
                self.assertEqual(repr(machine.step(room, event)), repr(plain.step(room, event)))

    def test_a_machine(self):
        self.assertIsInstance(PackMachine(pack(table())), Machine)

    def test_each_room_come_to_or_not(self):
        for events in (EVENTS, [QUIET], [QUIET, TWO, ONE], [QUIET, NO, YES], [QUIET, key(9)], [QUIET, key(9), key(0), word("b"), word("a")]):
            self.beside(table(events), pack(table(events)))

    def told(self, events, event, place):
        machine = PackMachine(pack(table(events)))
        for number, (over, rows) in enumerate(ROOMS):
            self.assertEqual(machine.step(number, event), rows[place])

    def test_events_that_are_not_in_the_list(self):
        for event in (key(0), key(3), key(9)):
            self.told(EVENTS, event, 2)
            self.told([QUIET, TWO, ONE, NO, YES], event, 2)
            self.told([QUIET, key(8), NO, YES], event, 1)
            self.told([QUIET, NO, YES], event, 0)
            self.told([QUIET], event, 0)
        for event in (word("a"), word("zz"), word("quiet"), word("key")):
            self.told(EVENTS, event, 4)
            self.told([QUIET, TWO, ONE, NO, YES], event, 4)
            self.told([QUIET, key(8), NO, YES], event, 3)
            self.told([QUIET, key(8), YES], event, 2)
            self.told([QUIET, ONE, TWO], event, 0)
            self.told([QUIET], event, 0)

    def test_packs_that_are_not_the_shortest(self):
        maker, chance = TableMaker(101), random.Random(101)
        for count in range(300):
            told = maker.table()
            self.beside(told, pack(told))
            packed = loose_pack(chance, told)
            self.assertIs(whole_pack(*packed), True)
            self.beside(told, packed)
            self.assertEqual(repr(table_of(PackMachine(packed), told[0])), repr(table_of(TableMachine(told), told[0])))
            rows = [any_events(chance, 12) for row in range(4)]
            self.same_runs(TableMachine(told), PackMachine(packed), rows)
            paper = [(room, room) for room in range(len(told[2]))]
            self.assertIs(right_paper(TableMachine(told), PackMachine(packed), told[0], paper), True)

    def test_two_packs_of_one_table_by_hand(self):
        # Two rooms, three sayings, three shapes; the last saying and the last shape are nobody's; an event is told as the common one.
        cells = [2, 3, 3, 2, 2, 1, 2, 1, 0, 8, 0, 0, 0, 0, 0, 1, 0, 1, 2, 2, 1, 1, 0, 0, 2, 1, 0]
        self.assertIs(whole_pack([QUIET, ONE], ["a", "b", "c"], cells), False)
        cells = [2, 3, 3, 2, 2, 5, 2, 0, 0, 8, 0, 0, 0, 0, 0, 1, 0, 1, 2, 1, 1, 1, 0, 0, 2, 1, 0]
        self.assertIs(whole_pack([QUIET, ONE], ["a", "b", "c"], cells), True)
        machine = PackMachine(([QUIET, ONE], ["a", "b", "c"], cells))
        self.assertEqual(run(machine, [QUIET, TWO, QUIET, ONE]), [["b", "a"], ["a"], ["a"], [], []])
        self.assertIs(machine.over(0), False)
        self.assertIs(machine.over(1), True)
        self.assertEqual(unpacked(([QUIET, ONE], ["a", "b", "c"], cells)), (
            [QUIET, ONE], ["b", "a"], [(False, [(["a"], 0), (["a"], 1)]), (True, [([], 1), ([], 1)])]))

    def test_never_beyond_the_cells(self):
        maker, chance = TableMaker(102), random.Random(102)
        for count in range(200):
            events, texts, cells = loose_pack(chance, maker.table())
            machine = PackMachine((events, texts, cells))
            machine.cells, machine.texts = Watched(machine.cells), Watched(machine.texts)
            machine.begin()
            for room in range(cells[0]):
                machine.over(room)
                for event in ALL_EVENTS:
                    machine.step(room, event)


class Kept(unittest.TestCase):
    def rows(self):
        return [[QUIET, ONE, ONE, key(7), QUIET, NO, QUIET], [YES, NO], [TWO, QUIET], []]

    def test_runs(self):
        machine = PackMachine(pack(table()))
        self.assertEqual([run(machine, row) for row in self.rows()], [run(TableMachine(table()), row) for row in self.rows()])
        self.assertEqual(run(machine, self.rows()[0]), [["hello", "you"], ["q"], ["one"], ["a", "b"], ["3:x"], ["far"], ["no"], ["lost"]])
        self.assertEqual([standing for standing, over in standings(machine, EVENTS)], [0, 1, 2, 3, 4, 5])

    def test_a_pack_changed_behind_the_making(self):
        packed = pack(table())
        machine = PackMachine(packed)
        runs = [run(machine, row) for row in self.rows()]
        spoil(packed)
        self.assertEqual([run(machine, row) for row in self.rows()], runs)
        for part in packed:
            part.clear()
        self.assertEqual([run(machine, row) for row in self.rows()], runs)
        self.assertEqual([machine.over(room) for room in range(6)], [over for over, rows in ROOMS])

    def test_nothing_handed_in_is_changed(self):
        packed = pack(table())
        before = copy.deepcopy(packed)
        machine = PackMachine(packed)
        spoil(machine.begin())
        spoil([machine.step(0, event) for event in EVENTS])
        self.assertEqual(packed, before)

    def test_each_saying_is_a_new_list(self):
        machine = PackMachine(pack(table()))
        machine.begin()[0].append("x")
        self.assertEqual(machine.begin(), (["hello", "you"], 0))
        for room in range(6):
            for event in ALL_EVENTS:
                told = machine.step(room, event)
                before = copy.deepcopy(told)
                machine.step(room, event)[0].append("x")
                self.assertEqual(told, before)
                self.assertEqual(machine.step(room, event), before)


class Scripts(TableCase):
    def test_the_runs_of_a_teller_and_its_pack(self):
        maker, chance = Maker(103), random.Random(103)
        count = large = 0
        while count < 400:
            script = maker.script()
            if not sound(script):
                continue
            try:
                told = table_of(Teller(script), events_of(script))
            except TooMany:
                continue
            count += 1
            large += len(told[2]) > 3
            rows = [any_events(chance, 15) for row in range(5)] + [[QUIET] * 12]
            self.same_runs(Teller(script), PackMachine(pack(told)), rows)
        self.assertGreater(large, 80)


if __name__ == "__main__":
    unittest.main()
