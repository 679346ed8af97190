"""Points 2, 3, 4, 44 and 45: still lines, and the first fall."""

import copy
import unittest

from callmill.errors import MillError, TooMany
from callmill.halls import Hall
from callmill.machines import Machine
from callmill.still import first_fall, still_lines
from graph_case import key
from own_lists import told_once
from plain_halls import QUIET, chance_machines, chance_outer, makers, teller

ONE, TWO = key(1), key(2)


class Clock(Machine):
    """Counts quiet turns, and goes from the last count back to another one; at some counts it says something.

    A key leads to the count that it is told, a word to the count that it is told; last is the count at which it is over.
    """

    def __init__(self, ahead, length, says=None, ways=None, last=None, begin=()):
        self.ahead, self.length, self.says, self.ways = ahead, length, says or {}, ways or {}
        self.last, self.begun = last, begin

    def begin(self):
        return (list(self.begun), ("at", 0))

    def step(self, standing, event):
        count = standing[1]
        if self.over(standing):
            return ([], standing)
        if event in self.ways:
            return ([], ("at", self.ways[event]))
        behind = count + 1 if count + 1 < self.ahead + self.length else self.ahead
        return (list(self.says.get(count, ())), ("at", behind))

    def over(self, standing):
        return standing[1] == self.last

    def values(self, standing):
        return ()


class Long(Machine):
    """Two counts that say something; behind key 1 more than two thousand such; behind key 2 one that is still."""

    def begin(self):
        return ([], 0)

    def step(self, standing, event):
        if event == ONE:
            return ([], 10)
        if event == TWO or standing == -1:
            return ([], -1)
        if standing < 2:
            return (["a"], 1 - standing)
        return (["b"], standing + 1 if standing < 2020 else 2)

    def over(self, standing):
        return False

    def values(self, standing):
        return ()


STAYS = ("loop", "wait 0", "end", "end")


def plain_still(hall, standing, turns):
    """Point 44 by so many turns, which are more than twice ahead and round together."""
    quiet = [QUIET] * len(hall.lines)
    stood, said = [standing], []
    for turn in range(turns):
        told = hall.step(stood[-1], quiet)
        said.append(told[0])
        stood.append(told[1])
    ahead = min(place for place in range(turns) if stood[place] in stood[place + 1:])
    length = stood.index(stood[ahead], ahead + 1) - ahead
    lines = []
    for line, machine in enumerate(hall.lines):
        if not any(each[line] for each in said) and not any(machine.over(each[line][0]) for each in stood):
            lines.append(line)
    return (lines, ahead, length)


class StillCase(unittest.TestCase):
    def told(self, machines, lines, ahead, length, turns=()):
        """What is told of the hall behind these turns."""
        hall = Hall(machines)
        standing = hall.begin()[1]
        for outer in turns:
            standing = hall.step(standing, outer)[1]
        before = copy.deepcopy(standing)
        told = told_once(self, lambda: still_lines(hall, standing))
        self.assertEqual(standing, before)
        self.assertIs(type(told), tuple)
        self.assertEqual([type(part) for part in told], [list, int, int])
        self.assertEqual(told, (lines, ahead, length))
        if ahead + length < 200:
            self.assertEqual(plain_still(hall, standing, 2 * (ahead + length) + 3), told)


class Still(StillCase):
    def test_nothing_for_ever(self):
        self.told([teller(*STAYS)], [0], 0, 1)
        self.told([teller("say hello", *STAYS)], [0], 0, 1)
        self.told([teller(*STAYS), teller("wait 0", "on key 1", "say a", "end")], [0, 1], 0, 1)

    def test_limits_that_nothing_comes_of(self):
        self.told([teller("loop", "wait 3", "end", "end")], [0], 0, 3)
        self.told([teller("wait 5", "end", *STAYS)], [0], 5, 1)

    def test_something_at_the_next_turn(self):
        self.told([teller("loop", "wait 1", "on none", "say tick", "end", "end")], [], 0, 1)
        self.told([teller("wait 1", "on none", "say tick", "end", *STAYS)], [], 1, 1)

    def test_something_much_later(self):
        rows = ["wait 9", "end"] * 8
        self.told([teller(*rows, "say late", *STAYS)], [], 72, 1)
        self.told([teller(*rows, *STAYS)], [0], 72, 1)

    def test_something_only_in_the_round(self):
        self.told([Clock(5, 7, {11: ["a"]})], [], 5, 7)
        self.told([Clock(5, 7, {5: ["a"]})], [], 5, 7)
        self.told([Clock(5, 7)], [0], 5, 7)

    def test_something_only_ahead_of_the_round(self):
        self.told([Clock(5, 7, {0: ["a"]})], [], 5, 7)
        self.told([Clock(5, 7, {4: ["a"]})], [], 5, 7)
        # Behind it the line is still.
        self.told([Clock(5, 7, {4: ["a"]})], [0], 0, 7, [[QUIET]] * 5)
        self.told([Clock(5, 7, {0: ["a"]})], [0], 4, 7, [[QUIET]])

    def test_what_was_said_at_the_beginning_tells_nothing(self):
        self.told([Clock(0, 1, begin=["hello", "you"])], [0], 0, 1)

    def test_hand_overs_are_said_too(self):
        self.told([Clock(0, 2, {1: ["9:a"]})], [], 0, 2)
        self.told([Clock(2, 1, {1: ["7:a"]}), Clock(0, 1)], [1], 2, 1)

    def test_over_now(self):
        self.told([teller("say bye"), teller(*STAYS)], [1], 0, 1)
        self.told([teller("stop")], [], 0, 1)
        self.told([teller("wait 0", "on key 1", "end"), teller(*STAYS)], [1], 0, 1, [[ONE, QUIET]])

    def test_over_later(self):
        self.told([teller("wait 4", "end")], [], 4, 1)
        self.told([Clock(9, 2, last=9), Clock(0, 2)], [1], 9, 2)
        self.told([Clock(9, 2, last=10)], [], 10, 1)

    def test_rows_that_are_not_empty_yet(self):
        # What waits goes on to be taken: a word that was handed over makes a line say something.
        waits = teller("loop", "wait 0", "on word yes", "say heard", "end", "end")
        says = teller("hand 0 no", "hand 0 no", "hand 0 yes", *STAYS)
        self.told([waits, says], [1], 3, 1)
        self.told([waits, says], [1], 1, 1, [[QUIET, QUIET]] * 2)
        self.told([waits, says], [0, 1], 0, 1, [[QUIET, QUIET]] * 3)
        self.told([waits, teller("hand 0 no", "hand 0 no", *STAYS)], [0, 1], 2, 1)
        # Of a line that is over the row is taken, too.
        self.told([teller("stop"), teller("hand 0 no", "hand 0 no", "hand 0 no", *STAYS)], [1], 3, 1)

    def test_a_word_that_stops_another_line(self):
        self.told([teller("wait 0", "on word yes", "stop", "end"), Clock(6, 1, {5: ["0:yes"]})], [], 7, 1)
        self.told([teller("wait 0", "on word yes", "stop", "end"), Clock(6, 1, {5: ["0:no"]})], [0], 7, 1)

    def test_a_round_of_hand_overs(self):
        one = teller("hand 1 yes", "loop", "wait 0", "on word yes", "hand 1 yes", "end", "end")
        other = teller("loop", "wait 0", "on word yes", "hand 0 yes", "end", "end")
        self.told([one, other, teller(*STAYS)], [2], 0, 2)

    def test_ahead_and_round_of_several_lines_together(self):
        self.told([Clock(3, 4), Clock(5, 6)], [0, 1], 5, 12)
        self.told([Clock(0, 4), Clock(0, 6), Clock(2, 5)], [0, 1, 2], 2, 60)
        self.told([Clock(7, 1), Clock(2, 2), Clock(0, 3, {1: ["a"]})], [0, 1], 7, 6)
        self.told([Clock(0, 4), Clock(0, 6)], [0, 1], 0, 12, [[QUIET, QUIET]] * 5)

    def test_lines_rising(self):
        machines = [Clock(0, 1) if line % 2 else Clock(0, 2, {0: ["a"]}) for line in range(6)]
        self.told(machines, [1, 3, 5], 0, 2)
        self.told(machines[1:], [0, 2, 4], 0, 2)

    def test_behind_keys(self):
        clock = Clock(0, 1, {5: ["a"], 6: ["b"]}, {ONE: 3, TWO: 2})
        hall = [clock, Clock(4, 1)]
        self.told(hall, [0, 1], 4, 1)
        self.told([Clock(9, 1, {5: ["a"]}, {ONE: 6, TWO: 2}), Clock(4, 1)], [0, 1], 3, 1, [[ONE, QUIET]])
        self.told([Clock(9, 1, {5: ["a"]}, {ONE: 6, TWO: 2}), Clock(4, 1)], [1], 7, 1, [[ONE, QUIET], [TWO, QUIET]])

    def test_just_two_thousand(self):
        self.told([Clock(0, 2000)], [0], 0, 2000)
        self.told([Clock(1999, 1)], [0], 1999, 1)
        self.told([Clock(1200, 800, {1999: ["a"]}), Clock(1, 2)], [1], 1200, 800)
        self.told([Clock(0, 40), Clock(40, 49)], [0, 1], 40, 1960)

    def refused(self, machines, ahead_turns=()):
        hall = Hall(machines)
        standing = hall.begin()[1]
        for outer in ahead_turns:
            standing = hall.step(standing, outer)[1]
        before = copy.deepcopy(standing)
        with self.assertRaises(TooMany) as caught:
            still_lines(hall, standing)
        self.assertIsInstance(caught.exception, MillError)
        self.assertEqual(standing, before)
        return hall

    def test_more(self):
        self.refused([Clock(0, 2001)])
        self.refused([Clock(2000, 1)])
        self.refused([Clock(1200, 801, {0: ["a"]})])
        self.refused([Clock(0, 41), Clock(0, 49)])
        self.refused([Clock(0, 40), Clock(41, 49)])
        # Also where all lines are over or say something at once.
        self.refused([Clock(0, 2001, {0: ["a"]}), Clock(0, 1, last=0)])
        hall = self.refused([Clock(2000, 1)])
        self.assertEqual(still_lines(hall, hall.step(hall.begin()[1], [QUIET])[1]), ([0], 1999, 1))

    def test_by_chance(self):
        maker, chance = makers(131)
        still = parted = rounds = 0
        for count in range(250):
            hall = Hall(chance_machines(maker, chance, chance.randrange(1, 5)))
            standing = hall.begin()[1]
            for turn in range(chance.randrange(4)):
                standing = hall.step(standing, chance_outer(chance, len(hall.lines)))[1]
            told = told_once(self, lambda: still_lines(hall, standing))
            self.assertEqual(plain_still(hall, standing, 2 * (told[1] + told[2]) + 3), told)
            still += len(told[0]) > 0
            parted += len(told[0]) < len(hall.lines)
            rounds += told[2] > 1
        self.assertGreater(still, 50)
        self.assertGreater(parted, 50)
        self.assertGreater(rounds, 10)


class Fall(unittest.TestCase):
    def told(self, machines, turns, answer):
        hall = Hall(machines)
        told = told_once(self, lambda handed: first_fall(hall, handed), turns)
        self.assertEqual(repr(told), repr(answer))

    def test_at_the_beginning(self):
        for turns in ([], [[QUIET]], [[ONE], [TWO]]):
            self.told([teller(*STAYS)], turns, (0, 0))
        self.told([teller("say a"), teller(*STAYS)], [], (0, 1))

    def test_never(self):
        ticks = ("loop", "wait 2", "on none", "say tick", "end", "end")
        for turns in ([], [[QUIET]] * 5, [[ONE], [QUIET]]):
            self.told([teller(*ticks)], turns, None)
            self.told([teller("say bye")], turns, None)
            self.told([teller(*ticks), teller("stop")], [turn * 2 for turn in turns], None)

    def test_behind_some_turns(self):
        falls = ("loop", "wait 2", "on key 1", *STAYS, "on none", "say tick", "end", "end")
        self.told([teller(*falls)], [[QUIET], [TWO], [ONE], [QUIET]], (3, 0))
        self.told([teller(*falls)], [[QUIET], [TWO], [ONE]], (3, 0))
        self.told([teller(*falls)], [[QUIET], [TWO]], None)
        self.told([teller(*falls)], [[ONE], [ONE]], (1, 0))
        self.told([teller("say bye"), teller(*falls)], [[ONE, QUIET], [QUIET, QUIET], [QUIET, ONE]], (3, 1))

    def test_by_quiet_turns_alone(self):
        self.told([teller("wait 3", "on none", "say a", "end", *STAYS)], [[QUIET]] * 5, (3, 0))
        self.told([teller("wait 3", "on none", "say a", "end", *STAYS)], [[QUIET]] * 3, (3, 0))
        self.told([teller("wait 3", "on none", "say a", "end", *STAYS)], [[QUIET]] * 2, None)

    def test_several_at_once(self):
        falls = ("loop", "wait 2", "on key 1", *STAYS, "on none", "say tick", "end", "end")
        ticks = ("loop", "wait 2", "on none", "say tick", "end", "end")
        self.told([teller(*ticks), teller(*falls), teller(*falls)], [[QUIET] * 3, [QUIET, ONE, ONE]], (2, 1))
        self.told([teller(*ticks), teller(*falls), teller(*falls)], [[QUIET] * 3, [QUIET, QUIET, ONE], [QUIET, ONE, ONE]], (2, 2))
        self.told([teller(*falls)] * 6, [[ONE] * 6], (1, 0))

    def test_one_that_is_still_only_for_a_time(self):
        # Still behind key 1, and again not behind key 2: the first moment counts.
        clock = Clock(0, 3, {2: ["a"]}, {ONE: 3, TWO: 0})
        clock.step = lambda standing, event, step=clock.step: ([], standing) if standing[1] == 3 and event != TWO else step(standing, event)
        self.told([clock], [[QUIET], [ONE], [TWO]], (2, 0))
        self.told([clock], [[QUIET], [TWO], [TWO]], None)

    def test_by_a_word_of_another_line(self):
        one = teller("loop", "wait 1", "on word yes", *STAYS, "on none", "say tick", "end", "end")
        other = teller("loop", "wait 1", "on key 1", "hand 0 yes", "on none", "say tock", "end", "end")
        # The word waits in the row behind the second turn, and nothing is said from there on.
        self.told([one, other], [[QUIET, QUIET], [QUIET, ONE], [QUIET, QUIET], [QUIET, QUIET]], (2, 0))
        self.told([one, other], [[QUIET, QUIET], [QUIET, QUIET]], None)

    def test_too_many_ahead_of_the_fall(self):
        for turns, answer in (([], None), ([[QUIET]] * 3, None), ([[TWO]], (1, 0)), ([[QUIET], [TWO]], (2, 0)),
                              ([[TWO], [ONE]], (1, 0)), ([[QUIET], [TWO], [ONE], [ONE]], (2, 0))):
            self.told([Long()], turns, answer)
        for turns in ([[ONE]], [[ONE], [TWO]], [[QUIET], [ONE], [TWO]], [[QUIET], [ONE], [QUIET]]):
            before = copy.deepcopy(turns)
            with self.assertRaises(TooMany):
                first_fall(Hall([Long()]), turns)
            self.assertEqual(turns, before)

    def test_too_many_at_the_beginning(self):
        for turns in ([], [[QUIET]], [[ONE]]):
            with self.assertRaises(TooMany):
                first_fall(Hall([Clock(2000, 1, ways={ONE: 1999})]), turns)
            self.told([Clock(1999, 1, ways={ONE: 1999})], turns, (0, 0))

    def test_by_chance(self):
        maker, chance = makers(132)
        found = {}
        for count in range(300):
            hall = Hall(chance_machines(maker, chance, chance.randrange(1, 4)))
            turns = [chance_outer(chance, len(hall.lines)) for turn in range(chance.randrange(8))]
            answer = None
            standing = hall.begin()[1]
            for gone in range(len(turns) + 1):
                lines = still_lines(hall, standing)[0]
                if lines:
                    answer = (gone, min(lines))
                    break
                if gone < len(turns):
                    standing = hall.step(standing, turns[gone])[1]
            self.assertEqual(repr(first_fall(hall, turns)), repr(answer))
            place = None if answer is None else min(answer[0], 1)
            found[place] = found.get(place, 0) + 1
        for place in (None, 0, 1):
            self.assertGreater(found[place], 10)


if __name__ == "__main__":
    unittest.main()
