"""Points 2, 42 and 43: halls."""

import copy
import unittest

from callmill.errors import TooMany
from callmill.graphs import GraphMachine
from callmill.halls import Hall
from callmill.lower import lowered
from callmill.machines import events_of
from callmill.mill import milled
from callmill.packed import PackMachine
from callmill.tables import TableMachine, table_of
from callmill.teller import Teller
from graph_case import key, word
from own_lists import lists_in, spoil
from plain_halls import QUIET, Heard, PlainHall, chance_machines, chance_outer, makers, teller

ONE, TWO, THREE, FOUR, FIVE = (key(k) for k in range(1, 6))
YES, NO = word("yes"), word("no")


def rows_of(standing):
    """The rows of a hall's standing."""
    return [row for at, row in standing]


class HallCase(unittest.TestCase):
    def formed(self, told, lines):
        self.assertIs(type(told), tuple)
        said, standing = told
        self.assertIs(type(said), list)
        self.assertEqual([type(each) for each in said], [list] * lines)
        self.assertIs(type(standing), tuple)
        self.assertEqual(len(standing), lines)
        for line in standing:
            self.assertIs(type(line), tuple)
            self.assertEqual(len(line), 2)
            self.assertIs(type(line[1]), tuple)
            self.assertLessEqual(len(line[1]), 3)

    def gone(self, machines, turns):
        """All that is said, turn by turn, and the rows behind each turn; beside a plain hall."""
        hall, plain = Hall(machines), PlainHall(machines)
        told = hall.begin()
        sayings, rows = [], []
        for outer in [None] + list(turns):
            if outer is not None:
                before = (copy.deepcopy(told), list(outer))
                again = hall.step(told[1], outer)
                self.assertEqual((told, list(outer)), before)
                spoil(again[0])
                told = hall.step(told[1], list(outer))
                plain.turn(outer)
            self.formed(told, len(machines))
            self.assertEqual(told[0], plain.said)
            self.assertEqual(repr(told[1]), repr(plain.standing()))
            sayings.append(copy.deepcopy(told[0]))
            rows.append(rows_of(told[1]))
        return sayings, rows


class Turns(HallCase):
    def test_one_line(self):
        sayings, rows = self.gone([Heard()], [[QUIET], [ONE], [QUIET]])
        self.assertEqual(sayings, [[[]], [["silence"]], [["key"]], [["silence"]]])
        self.assertEqual(rows, [[()]] * 4)

    def test_the_standing(self):
        hall = Hall([Heard(begin=["a", "1:yes"]), Heard({YES: []})])
        said, standing = hall.begin()
        self.assertEqual(said, [["a", "1:yes"], []])
        self.assertEqual(standing, (((0, None), ()), ((0, None), (YES,))))
        said, standing = hall.step(standing, [TWO, QUIET])
        self.assertEqual(said, [["key"], []])
        self.assertEqual(standing, (((1, TWO), ()), ((1, YES), ())))

    def test_outer_events_alone(self):
        hall = Hall([Heard(), Heard(), Heard()])
        standing = hall.step(hall.begin()[1], [ONE, QUIET, TWO])[1]
        self.assertEqual(standing, (((1, ONE), ()), ((1, QUIET), ()), ((1, TWO), ())))

    def test_outer_events_ahead_of_hand_overs(self):
        # What is handed over in a turn waits behind the key of that turn, which was put in first.
        hall = Hall([Heard({QUIET: ["1:yes"]}), Heard({QUIET: [], YES: ["heard"], ONE: ["one"]})])
        standing = hall.begin()[1]
        said, standing = hall.step(standing, [QUIET, ONE])
        self.assertEqual((said, rows_of(standing)), ([["1:yes"], ["one"]], [(), (YES,)]))
        said, standing = hall.step(standing, [QUIET, ONE])
        self.assertEqual((said, rows_of(standing)), ([["1:yes"], ["heard"]], [(), (ONE, YES)]))
        said, standing = hall.step(standing, [QUIET, TWO])
        self.assertEqual((said, rows_of(standing)), ([["1:yes"], ["one"]], [(), (YES, TWO, YES)]))

    def test_a_fourth_outer_event_is_lost(self):
        hall = Hall([Heard(begin=["0:a", "0:b", "0:c"])])
        standing = hall.begin()[1]
        self.assertEqual(rows_of(standing), [(word("a"), word("b"), word("c"))])
        # The row is full when the key comes, although its first one is taken in this very turn.
        standing = hall.step(standing, [ONE])[1]
        self.assertEqual((standing[0][0][1], rows_of(standing)), (word("a"), [(word("b"), word("c"))]))
        standing = hall.step(standing, [TWO])[1]
        self.assertEqual((standing[0][0][1], rows_of(standing)), (word("b"), [(word("c"), TWO)]))

    def test_a_fourth_hand_over_is_lost(self):
        hall = Hall([Heard({QUIET: ["1:a", "1:b", "1:c", "1:d", "1:e"]}), Heard({QUIET: []})])
        standing = hall.step(hall.begin()[1], [QUIET, QUIET])[1]
        self.assertEqual(rows_of(standing), [(), (word("a"), word("b"), word("c"))])
        # One is taken, and one more has room then.
        standing = hall.step(standing, [QUIET, QUIET])[1]
        self.assertEqual(rows_of(standing), [(), (word("b"), word("c"), word("a"))])

    def test_lost_for_one_line_alone(self):
        hall = Hall([Heard({QUIET: ["1:a", "1:b", "1:c", "1:d", "2:e"]}), Heard({QUIET: []}), Heard({QUIET: []})])
        self.assertEqual(rows_of(hall.step(hall.begin()[1], [QUIET] * 3)[1]), [(), (word("a"), word("b"), word("c")), (word("e"),)])

    def test_to_itself_to_lower_and_to_higher_lines(self):
        machines = [Heard({QUIET: ["2:a"], word("c"): []}), Heard({QUIET: ["1:b"], word("b"): []}), Heard({QUIET: ["0:c"], word("a"): []})]
        hall = Hall(machines)
        said, standing = hall.step(hall.begin()[1], [QUIET] * 3)
        self.assertEqual(said, [["2:a"], ["1:b"], ["0:c"]])
        # None is taken in the turn in which it is handed over, by higher lines either.
        self.assertEqual(rows_of(standing), [(word("c"),), (word("b"),), (word("a"),)])
        said, standing = hall.step(standing, [QUIET] * 3)
        self.assertEqual(said, [[], [], []])
        self.assertEqual(rows_of(standing), [(), (), ()])

    def test_to_lines_that_there_are_not(self):
        for lines in range(1, 7):
            texts = ["%d:yes" % line for line in range(10)]
            hall = Hall([Heard({QUIET: texts})] + [Heard({QUIET: []}) for line in range(lines - 1)])
            said, standing = hall.step(hall.begin()[1], [QUIET] * lines)
            self.assertEqual(said, [texts] + [[]] * (lines - 1))
            self.assertEqual(rows_of(standing), [(YES,)] * lines)

    def test_several_in_their_order(self):
        machines = [Heard({QUIET: ["2:a", "x", "1:b", "2:c"]}), Heard({QUIET: ["2:d", "0:e"]}), Heard({QUIET: ["0:f", "1:g", "0:h"]})]
        standing = Hall(machines).step(Hall(machines).begin()[1], [QUIET] * 3)[1]
        self.assertEqual(rows_of(standing), [
            (word("e"), word("f"), word("h")), (word("b"), word("g")), (word("a"), word("c"), word("d"))])

    def test_at_the_beginning(self):
        hall = Hall([Heard(begin=["1:a", "hello", "0:b", "7:c"]), Heard(begin=["1:d", "1:e", "1:f"])])
        said, standing = hall.begin()
        self.assertEqual(said, [["1:a", "hello", "0:b", "7:c"], ["1:d", "1:e", "1:f"]])
        self.assertEqual(rows_of(standing), [(word("b"),), (word("a"), word("d"), word("e"))])

    def test_words_are_no_hand_overs(self):
        hall = Hall([Heard({QUIET: ["yes", "no", "hand"]})])
        self.assertEqual(rows_of(hall.step(hall.begin()[1], [QUIET])[1]), [()])

    def test_lines_that_are_over(self):
        # They take what waits for them, turn by turn, and say nothing.
        hall = Hall([Heard(last=1), Heard({QUIET: ["0:a", "0:b"]})])
        standing = hall.step(hall.begin()[1], [QUIET, QUIET])[1]
        self.assertEqual(rows_of(standing), [(word("a"), word("b")), ()])
        said, standing = hall.step(standing, [ONE, ONE])
        self.assertEqual(said, [[], ["key"]])
        self.assertEqual(standing, (((1, QUIET), (word("b"), ONE)), ((2, ONE), ())))
        said, standing = hall.step(standing, [QUIET, ONE])
        self.assertEqual(standing[0], ((1, QUIET), (ONE,)))

    def test_all_from_where_they_stood(self):
        # One object as several lines, which tells the same list each time.
        machine = Heard({ONE: ["1:one"], TWO: ["0:two"], QUIET: []})
        hall = Hall([machine, machine])
        said, standing = hall.step(hall.begin()[1], [ONE, TWO])
        self.assertEqual(said, [["1:one"], ["0:two"]])
        self.assertEqual(standing, (((1, ONE), (word("two"),)), ((1, TWO), (word("one"),))))

    def test_any_standing_that_was_told_again(self):
        hall = Hall([Heard({QUIET: ["1:yes"]}), Heard()])
        first = hall.begin()[1]
        second = hall.step(first, [QUIET, ONE])[1]
        third = hall.step(second, [TWO, QUIET])
        hall.step(first, [ONE, TWO])
        hall.begin()
        self.assertEqual(hall.step(second, [TWO, QUIET]), third)
        self.assertEqual(hall.step(first, [QUIET, ONE])[1], second)

    def test_tellers_that_talk_to_one_another(self):
        ask = teller("hand 1 ask", "wait 3", "on word yes", "say good", "on none", "say lost", "end")
        answer = teller("loop", "wait 0", "on word ask", "wait 0", "on key 1", "hand 0 yes", "on other", "hand 0 no", "end", "end", "end")
        sayings, rows = self.gone([ask, answer], [[QUIET, QUIET], [QUIET, ONE], [QUIET, QUIET]])
        self.assertEqual(sayings, [[["1:ask"], []], [[], []], [[], ["0:yes"]], [["good"], []]])
        self.assertEqual(rows, [[(), (word("ask"),)], [(), ()], [(YES,), ()], [(), ()]])
        sayings, rows = self.gone([ask, answer], [[QUIET, ONE], [QUIET, QUIET], [QUIET, QUIET]])
        self.assertEqual(sayings, [[["1:ask"], []], [[], []], [[], ["0:yes"]], [["good"], []]])
        sayings, rows = self.gone([ask, answer], [[QUIET, QUIET]] * 3)
        self.assertEqual(sayings[3], [["lost"], []])


class Kept(HallCase):
    def test_the_lines(self):
        machines = [Heard(), teller("say a"), Heard()]
        hall = Hall(machines)
        self.assertIs(type(hall.lines), list)
        self.assertEqual(len(hall.lines), 3)
        for line, machine in zip(hall.lines, machines):
            self.assertIs(line, machine)
        self.assertIsNot(hall.lines, machines)

    def test_a_list_changed_behind(self):
        one, other = Heard({QUIET: ["1:yes"]}), Heard({QUIET: ["other"]})
        for change in (lambda machines: machines.clear(), lambda machines: machines.append(Heard()), lambda machines: machines.reverse()):
            for of_the_hall in (False, True):
                machines = [one, other]
                hall = Hall(machines)
                change(hall.lines if of_the_hall else machines)
                if of_the_hall:
                    self.assertEqual(machines, [one, other])
                else:
                    self.assertEqual(hall.lines, [one, other])
                said, standing = hall.begin()
                self.assertEqual(said, [[], []])
                said, standing = hall.step(standing, [QUIET, QUIET])
                self.assertEqual(said, [["1:yes"], ["other"]])
                self.assertEqual(rows_of(standing), [(), (YES,)])

    def test_each_list_is_a_new_one(self):
        hall = Hall([Heard(begin=["a", "0:b"]), Heard({QUIET: ["1:c"]}), teller("say d")])
        told = hall.begin()
        before = copy.deepcopy(told)
        spoil(hall.begin()[0])
        self.assertEqual(told, before)
        self.assertEqual(hall.begin(), before)
        places = [id(each) for each in lists_in(told)]
        self.assertEqual(len(places), len(set(places)))
        outer = [QUIET, QUIET, ONE]
        step = hall.step(told[1], outer)
        kept = copy.deepcopy(step)
        spoil(hall.step(told[1], outer)[0])
        spoil(outer)
        self.assertEqual(step, kept)
        self.assertEqual(hall.step(told[1], [QUIET, QUIET, ONE]), kept)


class ByChance(HallCase):
    def test_halls_of_tellers(self):
        maker, chance = makers(121)
        waited = full = 0
        for count in range(150):
            machines = chance_machines(maker, chance, chance.randrange(1, 7))
            if chance.random() < 0.3:
                machines[chance.randrange(len(machines))] = Heard({QUIET: ["0:yes", "1:other"], YES: ["2:yes"], ONE: []}, ["1:no"], 9)
            turns = [chance_outer(chance, len(machines)) for turn in range(12)]
            sayings, rows = self.gone(machines, turns)
            waited += sum(len(row) for each in rows for row in each)
            full += sum(len(row) == 3 for each in rows for row in each)
        self.assertGreater(waited, 300)
        self.assertGreater(full, 20)

    def test_machines_of_each_class(self):
        maker, chance = makers(122)
        said = 0
        for count in range(60):
            scripts = []
            lines = chance.randrange(1, 7)
            while len(scripts) < lines:
                script = chance_machines(maker, chance, 1, lambda script: script)[0]
                try:
                    milled(script)
                except TooMany:
                    continue
                scripts.append(script)
            kinds = [
                Teller, lambda script: GraphMachine(lowered(script)), lambda script: TableMachine(table_of(Teller(script), events_of(script))),
                lambda script: TableMachine(milled(script)[3]), lambda script: PackMachine(milled(script)[4])]
            turns = [chance_outer(chance, lines) for turn in range(10)]
            runs = [self.gone([kind(script) for script in scripts], turns) for kind in kinds]
            runs.append(self.gone([chance.choice(kinds)(script) for script in scripts], turns))
            for other in runs:
                self.assertEqual(other, runs[0])
            said += sum(each != [] for turn in runs[0][0] for each in turn)
        self.assertGreater(said, 100)


if __name__ == "__main__":
    unittest.main()
