"""Points 2, 4, 19, 33 and 34: rooms that part, and the least table."""

import copy
import itertools
import random
import unittest

from callmill.errors import TooMany
from callmill.least import least_paper, least_table, parting
from callmill.looker import sound
from callmill.machines import events_of
from callmill.papers import right_paper
from callmill.reader import read_script
from callmill.tables import TableMachine, table_of
from callmill.teller import Teller
from chance_scripts import Maker, any_events
from chance_tables import TableMaker
from graph_case import QUIET, key, plainly_right, word
from own_lists import told_once
from plain_tables import part_by, plain_least, plain_parting, unparted
from table_case import TableCase

ONE, TWO, THREE = key(1), key(2), key(3)
YES = word("yes")


def over(number, events):
    return (True, [([], number)] * events)


def rooms_of(*told):
    """Rooms of rows written as text: what is said, words parted by blanks, and the next room's number; "over" for over rooms."""
    rooms = []
    for number, rows in enumerate(told):
        if rows == "over":
            rooms.append(None)
            continue
        rooms.append((False, [(row.split()[:-1], int(row.split()[-1])) for row in rows.split(",")]))
    count = max(len(room[1]) for room in rooms if room is not None) if any(rooms) else 1
    return [over(number, count) if room is None else room for number, room in enumerate(rooms)]


def table(events, *told):
    return (list(events), ["hi"], copy.deepcopy(rooms_of(*told)))


def chain(count, events, last="x"):
    """Rooms one behind the other by key 1; the last one says something there."""
    rows = [(False, [([], number) if event != ONE else ([], number + 1) for event in events]) for number in range(count - 1)]
    rows.append((False, [([], count - 1) if event != ONE else ([last], 0) for event in events]))
    return (list(events), [], rows)


class PartingCase(TableCase):
    def told(self, told, room, other, row):
        """The parting row, both ways round."""
        answer = told_once(self, parting, told, room, other)
        self.assertEqual(answer, row)
        self.assertIs(type(answer), list if row is not None else type(None))
        self.assertEqual(parting(told, other, room), row)
        if row is not None:
            places = [told[0].index(event) for event in row]
            self.assertTrue(part_by(told, room, other, places))


class Parting(PartingCase):
    def test_a_room_and_itself(self):
        told = table([QUIET, ONE], "a 1, b 0", "over", "x 0, y 1")
        for room in range(3):
            self.told(told, room, room, None)

    def test_by_no_event(self):
        told = table([QUIET, ONE], "0, 0", "over", "over", "2, 1")
        self.told(told, 0, 1, [])
        self.told(told, 0, 2, [])
        self.told(told, 3, 2, [])
        self.told(told, 1, 2, None)

    def test_one_that_says_nothing_for_ever_is_not_over(self):
        told = table([QUIET], "0", "over", "0", "3")
        self.told(told, 0, 1, [])
        self.told(told, 0, 2, None)
        self.told(told, 2, 3, None)

    def test_by_what_is_said(self):
        told = table([QUIET, ONE, TWO], "0, 0, 0", "0, a 0, 0", "0, 0, a 0", "a 0, 0, 0", "0, b 0, 0", "0, a a 0, 0", "0, a b 0, 0",
                     "0, b a 0, 0")
        self.told(told, 0, 1, [ONE])
        self.told(told, 0, 2, [TWO])
        self.told(told, 0, 3, [QUIET])
        self.told(told, 1, 2, [ONE])
        self.told(told, 2, 3, [QUIET])
        self.told(told, 1, 4, [ONE])
        self.told(told, 1, 5, [ONE])
        self.told(told, 6, 7, [ONE])
        self.told(told, 5, 6, [ONE])

    def test_by_being_over(self):
        told = table([QUIET, ONE, TWO], "0, 0, 0", "1, 3, 1", "2, 2, 4", "over", "over", "5, 4, 5")
        self.told(told, 0, 1, [ONE])
        self.told(told, 0, 2, [TWO])
        self.told(told, 1, 2, [ONE])
        self.told(told, 1, 5, None)
        self.told(told, 3, 4, None)
        self.told(told, 3, 5, [])

    def test_a_saying_that_is_the_same_while_one_is_over(self):
        told = table([QUIET, ONE], "0, a 2", "1, a 1", "over")
        self.told(told, 0, 1, [ONE])

    def test_long_rows(self):
        # Only the last of several steps parts; the other event leads back.
        told = table([QUIET, ONE], "0, 1", "0, 2", "0, 3", "0, 4", "0, a 4", "5, 6", "5, 7", "5, 8", "5, 9", "5, b 9")
        self.told(told, 0, 5, [ONE] * 5)
        self.told(told, 1, 6, [ONE] * 4)
        self.told(told, 0, 1, [ONE] * 4)
        self.told(told, 3, 5, [ONE] * 2)
        self.told(told, 4, 9, [ONE])

    def test_long_rows_of_several_events(self):
        told = table([QUIET, ONE, TWO], "0, 0, 1", "0, 2, 0", "3, 0, 0", "0, 0, 4", "0, a 0, 0",
                     "5, 5, 6", "5, 7, 5", "8, 5, 5", "5, 5, 9", "5, b 5, 5")
        self.told(told, 0, 5, [TWO, ONE, QUIET, TWO, ONE])

    def test_of_several_shortest_rows_the_first(self):
        told = table([QUIET, ONE, TWO], "1, 2, 3", "0, 0, 0", "0, 0, a 0", "a 0, 0, 0",
                     "5, 6, 7", "4, 4, 4", "4, 4, b 4", "b 4, 4, 4")
        self.told(told, 0, 4, [ONE, TWO])
        told = table([QUIET, ONE, TWO], "1, 2, 3", "0, 0, a 0", "a 0, 0, 0", "a 0, 0, 0",
                     "5, 6, 7", "4, 4, b 4", "b 4, 4, 4", "b 4, 4, 4")
        self.told(told, 0, 4, [QUIET, TWO])
        told = table([QUIET, ONE, TWO], "1, 2, 3", "0, 0, 0", "0, 0, 0", "0, a 0, b 0",
                     "5, 6, 7", "4, 4, 4", "4, 4, 4", "4, b 4, a 4")
        self.told(told, 0, 4, [TWO, ONE])

    def test_a_shorter_row_ahead_of_an_earlier_one(self):
        told = table([QUIET, ONE, TWO], "1, 0, 2", "a 0, 0, 0", "0, 0, 0", "4, 3, b 2", "b 3, 3, 3")
        self.told(told, 0, 3, [TWO])
        told = table([QUIET, ONE, TWO], "1, 0, 2", "3, 0, 0", "0, 0, a 0", "a 0, 0, 0",
                     "5, 4, 6", "7, 4, 4", "4, 4, b 4", "b 4, 4, 4")
        self.told(told, 0, 4, [TWO, TWO])

    def test_rows_whose_last_step_alone_parts(self):
        # Behind an earlier parting both do the same again; a shortest row ends where they first part.
        told = table([QUIET, ONE], "2, a 2", "2, b 2", "2, 2")
        self.told(told, 0, 1, [ONE])

    def test_by_the_order_of_the_list_of_events(self):
        rows = ("0, 0, 0", "0, a 0, b 0", "0, 0, c 0", "3, 3, 1", "3, 1, 1", "3, 1, 0")
        for events in itertools.permutations((ONE, TWO)):
            told = table((QUIET,) + events, *rows)
            self.told(told, 0, 1, [events[0]])
            self.told(told, 0, 2, [events[1]])
            self.told(told, 1, 2, [events[0]])
            self.told(told, 3, 4, [events[0], events[0]])
            self.told(told, 4, 5, [events[1], events[0]])
        told = table((QUIET, THREE, ONE, word("b"), word("a")), "0, 0, 0, a 0, a 0", "0, 0, 0, 0, 0", "0, a 0, a 0, 0, 0")
        self.told(told, 0, 1, [word("b")])
        self.told(told, 1, 2, [THREE])
        self.told(told, 0, 2, [THREE])

    def test_rooms_that_no_way_leads_to(self):
        told = table([QUIET, ONE], "over", "1, 1", "2, 3", "over")
        self.told(told, 1, 2, [ONE])
        self.told(told, 0, 3, None)

    def test_rounds_of_rooms(self):
        # Rounds of two and of three rooms that never part, and of three that say something in other places.
        told = table([QUIET, ONE], "0, 1", "1, 0", "2, 3", "3, 4", "4, 2", "5, 6", "6, 7", "7, a 5")
        for room, other in itertools.combinations(range(5), 2):
            self.told(told, room, other, None)
        self.told(told, 0, 5, [ONE, ONE, ONE])
        self.told(told, 5, 6, [ONE, ONE])
        self.told(told, 7, 6, [ONE])

    def test_very_long_rows(self):
        told = chain(2000, [QUIET, ONE])
        self.assertEqual(parting(told, 0, 1), [ONE] * 1999)
        self.assertEqual(parting(told, 1999, 1000), [ONE])
        self.assertEqual(parting(told, 500, 0), [ONE] * 1500)

    def test_many_pairs(self):
        # Two rounds of 40 and 49 rooms by key 1, begun anew by key 2: nearly all pairs are come to.
        rooms = [(False, [([], 0), ([], (number + 1) % 40), ([], 0)]) for number in range(40)]
        rooms += [(False, [([], 40), ([], 40 + (number + 1) % 49), ([], 40)]) for number in range(49)]
        told = ([QUIET, ONE, TWO], [], rooms)
        self.assertIsNone(parting(told, 0, 40))
        rooms[39][1][1] = (["x"], 0)
        self.assertEqual(parting(told, 0, 40), [ONE] * 40)
        rooms[39][1][1] = ([], 0)
        rooms[88][1][2] = (["x"], 40)
        self.assertEqual(parting(told, 0, 40), [ONE] * 48 + [TWO])

    def test_by_chance(self):
        maker = TableMaker(71)
        lengths = {}
        for count in range(150):
            told = maker.table()
            longest = 4 if len(told[0]) <= 4 else 2 if len(told[0]) <= 6 else 1
            same = unparted(told)
            for room, other in itertools.combinations(range(min(7, len(told[2]))), 2):
                row = parting(told, room, other)
                self.assertEqual(row is None, (room, other) in same)
                self.assertEqual(parting(told, other, room), row)
                if row is not None:
                    lengths[len(row)] = lengths.get(len(row), 0) + 1
                    self.assertTrue(part_by(told, room, other, [told[0].index(event) for event in row]))
                if row is None or len(row) > longest:
                    self.assertIsNone(plain_parting(told, room, other, longest))
                else:
                    self.assertEqual(row, plain_parting(told, room, other, longest))
        for length in range(3):
            self.assertGreater(lengths[length], 5)

    def test_by_chance_longer_ones(self):
        # Few events and few sayings, so that rows are long and several are as short.
        chance = random.Random(72)
        long_ones = 0
        for count in range(300):
            size = chance.randrange(4, 9)
            rooms = [(False, [([], chance.randrange(size)) for event in range(3)]) for number in range(size)]
            rooms[0][1][chance.randrange(3)] = (["a"], 0)
            told = ([QUIET, ONE, TWO], [], rooms)
            for room, other in ((1, 2), (2, 3), (1, 3)):
                row = parting(told, room, other)
                longest = 6 if row is None else len(row)
                if longest <= 6:
                    self.assertEqual(row, plain_parting(told, room, other, longest))
                long_ones += longest > 3 and row is not None
        self.assertGreater(long_ones, 20)


class LeastCase(TableCase):
    def told(self, told, answer=None, numbers=None):
        """The least table beside a plain one, all its promises looked at."""
        least = told_once(self, least_table, told)
        self.assertIs(type(least), tuple)
        self.assertEqual(repr(least), repr(plain_least(told)))
        new, stands_for = least
        self.formed_table(new, told[0])
        self.assertEqual(new[1], told[1])
        if answer is not None:
            self.assertEqual(repr(new[2]), repr(rooms_of(*answer)))
            self.assertEqual(stands_for, numbers)
        for number in stands_for:
            if number is not None:
                self.whole(number, 0, len(new[2]) - 1)
        paper = told_once(self, least_paper, told)
        self.assertEqual(repr(paper), repr([(room, number) for room, number in enumerate(stands_for) if number is not None]))
        one, other = TableMachine(told), TableMachine(new)
        self.assertIs(plainly_right(one, other, told[0], paper), True)
        self.assertIs(right_paper(one, other, told[0], paper), True)
        self.assertEqual(repr(least_table(new)), repr((new, list(range(len(new[2]))))))
        return new


class Least(LeastCase):
    def test_one_room(self):
        self.told(table([QUIET], "a 0"), ["a 0"], [0])
        self.told(table([QUIET], "over"), ["over"], [0])

    def test_left_as_it_is(self):
        rows = ("a 1, 2", "b 0, 1", "c 2, 3", "over")
        self.told(table([QUIET, ONE], *rows), rows, [0, 1, 2, 3])

    def test_over_rooms_are_one(self):
        self.told(table([QUIET, ONE, TWO], "1, 2, 3", "over", "over", "x 1, 3, 3"), ["1, 1, 2", "over", "x 1, 2, 2"], [0, 1, 1, 2])

    def test_over_is_not_still(self):
        self.told(table([QUIET, ONE], "1, 2", "over", "2, 2"), ["1, 2", "over", "2, 2"], [0, 1, 2])

    def test_rooms_that_no_way_leads_to(self):
        self.told(table([QUIET, ONE], "0, 2", "a 0, 2", "x 2, 0", "0, 2", "over"), ["0, 1", "x 1, 0"], [0, None, 1, None, None])

    def test_a_room_without_a_way_to_it_is_as_one_that_has_a_way(self):
        # Room 1 does what room 0 does, but no way leads to it.
        self.told(table([QUIET, ONE], "2, a 2", "2, a 2", "0, b 2"), ["1, a 1", "0, b 1"], [0, None, 1])

    def test_the_numbering(self):
        # Found by the last event first come to as the second; old numbers tell nothing.
        self.told(table([QUIET, ONE, TWO], "0, 3, 1", "b 2, 0, 0", "c 2, 2, 2", "a 1, 3, 3"),
                  ["0, 1, 2", "a 2, 1, 1", "b 3, 0, 0", "c 3, 3, 3"], [0, 2, 3, 1])
        self.told(table([QUIET, TWO, ONE], "0, 1, 3", "b 2, 0, 0", "c 2, 2, 2", "a 1, 3, 3"),
                  ["0, 1, 2", "b 3, 0, 0", "a 1, 2, 2", "c 3, 3, 3"], [0, 1, 3, 2])

    def test_the_numbering_of_sets(self):
        # Rooms 1 and 4 are alike and so are 2 and 3; 4 is found first, then 2.
        self.told(table([QUIET, ONE], "4, 2", "a 0, 1", "b 0, 2", "b 0, 2", "a 0, 1"), ["1, 2", "a 0, 1", "b 0, 2"], [0, 1, 2, None, 1])
        self.told(table([QUIET, ONE], "4, 3", "a 0, 4", "b 0, 3", "b 0, 2", "a 0, 1"), ["1, 2", "a 0, 1", "b 0, 2"], [0, 1, 2, 2, 1])

    def test_rooms_alike_only_together(self):
        self.told(table([QUIET, ONE], "0, 1", "1, 0"), ["0, 0"], [0, 0])
        self.told(table([QUIET, ONE], "0, 1", "1, 2", "2, 3", "3, 4", "4, 0"), ["0, 0"], [0] * 5)
        self.told(table([QUIET, ONE], "0, 1", "1, a 2", "2, 3", "3, a 0"), ["0, 1", "1, a 0"], [0, 1, 0, 1])
        self.told(table([QUIET, ONE], "0, 1", "1, a 2", "2, 3", "3, a 4", "4, 5", "5, b 0"),
                  ["0, 1", "1, a 2", "2, 3", "3, a 4", "4, 5", "5, b 0"], [0, 1, 2, 3, 4, 5])

    def test_rounds_that_are_of_unlike_lengths(self):
        # A round of two and one of four are the same round.
        self.told(table([QUIET, ONE], "2, 1", "1, a 0", "2, 3", "3, a 4", "4, 5", "5, a 2"), ["0, 1", "1, a 0"], [0, 1, 0, 1, 0, 1])

    def test_rooms_that_part_late(self):
        self.told(table([QUIET, ONE, TWO], "1, 4, 0", "1, 2, 1", "2, 3, 2", "3, a 3, 3", "4, 5, 4", "5, 6, 5", "6, b 3, 6"),
                  ["1, 2, 0", "1, 3, 1", "2, 4, 2", "3, 5, 3", "4, 6, 4", "5, a 5, 5", "6, b 5, 6"], [0, 1, 3, 5, 2, 4, 6])

    def test_the_beginnings_saying_parts_nothing(self):
        told = table([QUIET], "0")
        for saying in ([], ["a"], ["a", "b", "3:yes"]):
            self.assertEqual(least_table((told[0], saying, told[2])), ((told[0], saying, told[2]), [0]))

    def test_any_two_of_its_rooms_part(self):
        maker = TableMaker(73)
        smaller = left_out = 0
        for count in range(400):
            told = maker.table()
            new = self.told(told)
            smaller += len(new[2]) < len([number for number in least_table(told)[1] if number is not None])
            left_out += None in least_table(told)[1]
            for room, other in itertools.combinations(range(len(new[2])), 2):
                self.assertIsNotNone(parting(new, room, other))
            stands_for = least_table(told)[1]
            for room, other in itertools.combinations([room for room in range(len(told[2])) if stands_for[room] is not None], 2):
                self.assertEqual(parting(told, room, other) is None, stands_for[room] == stands_for[other])
        self.assertGreater(smaller, 100)
        self.assertGreater(left_out, 100)

    def test_no_table_with_fewer_rooms_does_the_same(self):
        # All tables of two rooms, of two events and little to say, beside the least ones of three.
        events = [QUIET, ONE]
        rows = [(said, way) for said in ((), ("a",)) for way in range(2)]
        kinds = list(itertools.product(rows, repeat=2))
        small = [(events, [], [(False, list(one)), (False, list(other))]) for one in kinds for other in kinds]
        words = [[events[place] for place in row] for row in itertools.product(range(2), repeat=5)]
        chance = random.Random(74)
        looked = 0
        while looked < 25:
            rooms = [(False, [([], chance.randrange(4)), (chance.choice(([], ["a"])), chance.randrange(4))]) for room in range(4)]
            least = least_table((events, [], rooms))[0]
            if len(least[2]) < 3:
                continue
            looked += 1
            runs = [self.sayings(least, row) for row in words]
            for other in small:
                self.assertTrue(any(self.sayings(other, row) != own for row, own in zip(words, runs)))

    def sayings(self, told, row):
        room, said = 0, []
        for event in row:
            step = told[2][room][1][told[0].index(event)]
            said.append(tuple(step[0]))
            room = step[1]
        return said

    def test_many_rooms(self):
        told = chain(2000, [QUIET, ONE])
        self.assertEqual(least_table(told), (told, list(range(2000))))
        self.assertEqual(least_paper(told), [(number, number) for number in range(2000)])
        # A round of two thousand that is one of fifty.
        rooms = [(False, [([], number), (["x"] if number % 50 == 49 else [], (number + 1) % 2000)]) for number in range(2000)]
        least, numbers = least_table(([QUIET, ONE], [], rooms))
        self.assertEqual(least, chain(50, [QUIET, ONE]))
        self.assertEqual(numbers, [number % 50 for number in range(2000)])
        # And one that is but one room, with one thousand that no way leads to.
        rooms = [(False, [([], number), ([], (number + 1) % 1000)]) for number in range(1000)]
        rooms += [(False, [(["x"], number), ([], number - 1000)]) for number in range(1000, 2000)]
        least, numbers = least_table(([QUIET, ONE], [], rooms))
        self.assertEqual(least, ([QUIET, ONE], [], [(False, [([], 0), ([], 0)])]))
        self.assertEqual(numbers, [0] * 1000 + [None] * 1000)

    def test_many_rooms_by_many_events(self):
        chance = random.Random(75)
        events = [QUIET] + [key(k) for k in range(10)] + [word(w) for w in "abcdefghijklmnopqrst"]
        rooms = [(False, [(chance.choice(([], ["a"])), chance.randrange(300)) for event in events]) for room in range(300)]
        copies = [(False, [(list(said), way + 300 * chance.randrange(5)) for said, way in rooms[number % 300][1]])
                  for number in range(1500)]
        least, numbers = least_table((events, [], copies))
        self.assertEqual(len(least[2]), 300)
        for number in range(1500):
            self.assertEqual(numbers[number], numbers[number % 300])


class Scripts(LeastCase):
    def test_runs_of_scripts(self):
        maker, chance = Maker(76), random.Random(76)
        count = smaller = 0
        while count < 500:
            script = maker.script()
            if not sound(script):
                continue
            try:
                told = table_of(Teller(script), events_of(script))
            except TooMany:
                continue
            count += 1
            least = self.told(told) if len(told[2]) < 60 else least_table(told)[0]
            smaller += len(least[2]) < len(told[2])
            self.same_runs(Teller(script), TableMachine(least), [any_events(chance, 15) for row in range(5)] + [[QUIET] * 12])
        self.assertGreater(smaller, 20)

    def test_a_script_that_does_alike_in_two_places(self):
        script = read_script("""talk main
  wait 0
    on key 1
      wait 0
        on key 1
          say a
      end
    on key 2
      loop
        wait 0
          on key 1
            say a
            leave
        end
      end
  end
end""")
        told = table_of(Teller(script), events_of(script))
        self.assertEqual(len(told[2]), 4)
        self.assertEqual(len(self.told(told)[2]), 3)
        self.assertEqual(least_table(told)[1], [0, 1, 1, 2])


if __name__ == "__main__":
    unittest.main()
