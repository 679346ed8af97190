"""Points 2, 36, 37 and 38: tables packed, unpacked, and packs looked at."""

import random
import unittest

from callmill.errors import TooMany
from callmill.least import least_table
from callmill.looker import sound
from callmill.machines import events_of
from callmill.packs import pack, unpacked, whole_pack
from callmill.reader import read_script
from callmill.tables import table_of
from callmill.teller import Teller
from chance_scripts import Maker
from chance_tables import TableMaker, loose_pack
from graph_case import QUIET, key, word
from own_lists import told_once
from plain_tables import plain_pack, plain_unpacked
from table_case import TableCase

ONE, TWO = key(1), key(2)
YES, NO = word("yes"), word("no")
HUGE = int("9" * 60)


class PackCase(TableCase):
    def formed_pack(self, told):
        self.assertIs(type(told), tuple)
        self.assertEqual([type(part) for part in told], [list, list, list])
        for cell in told[2]:
            self.assertIs(type(cell), int)
            self.assertGreaterEqual(cell, 0)
        self.assertEqual(told[1], sorted(set(told[1])))

    def packed(self, table, texts=None, cells=None):
        """The pack of the table, unpacked to the very table again."""
        told = told_once(self, pack, table)
        self.formed_pack(told)
        if texts is not None:
            self.assertEqual(told, (table[0], texts, cells))
        self.assertEqual(repr(told), repr(plain_pack(table)))
        self.assertIs(told_once(self, whole_pack, *told), True)
        self.assertEqual(repr(told_once(self, unpacked, told)), repr(table))
        return told


class Cells(PackCase):
    def test_one_room(self):
        self.packed(([QUIET], [], [(True, [([], 0)])]), [], [1, 1, 1, 0, 1, 2, 0, 0, 0])
        self.packed(([QUIET], [], [(False, [([], 0)])]), [], [1, 1, 1, 0, 0, 2, 0, 0, 0])
        self.packed(([QUIET], ["a"], [(True, [([], 0)])]), ["a"], [1, 2, 1, 0, 1, 2, 1, 0, 1, 0, 0])
        self.packed(([QUIET], ["a"], [(False, [(["a"], 0)])]), ["a"], [1, 1, 1, 0, 0, 2, 0, 0, 1, 0])

    def test_a_script(self):
        script = read_script("talk main\nsay hello\nwait 2\non key 1\nhand 3 yes\non none\nsay bye\nend\nend")
        table = table_of(Teller(script), events_of(script))
        self.packed(table, ["3:yes", "bye", "hello"], [
            3, 4, 3, 0,
            0, 2, 5,
            5, 1, 1, 1, 2, 2,
            5, 3, 2, 1, 2, 2,
            2, 1, 2,
            1, 2, 0, 1, 0, 1, 1])

    def test_the_order_of_texts(self):
        table = ([QUIET, ONE], ["z", "b"], [(False, [(["b", "3:b", "0:z"], 0), (["abc", "ab", "z", "z"], 0)])])
        self.packed(table, ["0:z", "3:b", "ab", "abc", "b", "z"], [
            1, 3, 1, 0, 0, 5, 1, 0, 1, 2, 0, 2, 5, 4, 3, 4, 1, 0, 4, 3, 2, 5, 5])

    def test_the_order_of_sayings(self):
        # The beginning's first, then room by room and event by event; the same texts in another order are another saying.
        table = ([QUIET, ONE], ["b", "a"], [
            (False, [(["a", "b"], 1), ([], 1)]), (False, [(["b", "a"], 1), (["a"], 0)])])
        self.packed(table, ["a", "b"], [
            2, 4, 2, 0, 0, 2, 5, 1, 1, 1, 2, 1, 5, 0, 1, 1, 3, 0, 2, 1, 0, 2, 0, 1, 0, 1, 0])

    def test_the_order_of_shapes(self):
        # Rooms 1 and 3 have the rows of room 0.
        rows, other = [((), 0), (("a",), 2)], [(("a",), 0), (("a",), 2)]
        table = ([QUIET, ONE], [], [(False, [(list(said), way) for said, way in each]) for each in (rows, rows, other, rows)])
        self.packed(table, ["a"], [4, 2, 2, 0, 0, 0, 2, 0, 5, 0, 0, 1, 1, 2, 5, 1, 0, 1, 1, 2, 0, 1, 0])

    def test_an_over_room_with_the_rows_of_another(self):
        # One that stays for ever without being over has another room's number in its rows; over rooms have their own.
        table = ([QUIET, ONE], [], [(False, [([], 1), ([], 1)]), (True, [([], 1), ([], 1)]), (False, [([], 1), ([], 1)])])
        self.packed(table, [], [3, 1, 1, 0, 0, 1, 0, 2, 0, 1, 0])

    def test_several_over_rooms(self):
        table = ([QUIET], [], [(False, [(["a"], 2)]), (True, [([], 1)]), (True, [([], 2)])])
        self.packed(table, ["a"], [3, 2, 3, 0, 0, 3, 5, 2, 1, 2, 2, 0, 1, 2, 0, 2, 0, 1, 0])

    def test_the_common_pair(self):
        events = [QUIET, key(0), key(1), key(2), YES, NO]
        a, b, c = (["a"], 0), (["b"], 0), (["a"], 1)
        shapes = (
            ([a, a, a, b, b, c], [0, 0, 3, 1, 0, 4, 1, 0, 5, 0, 1]),
            ([a, b, b, b, c, c], [1, 0, 0, 0, 0, 4, 0, 1, 5, 0, 1]),
            ([a, c, b, c, b, c], [0, 1, 0, 0, 0, 2, 1, 0, 4, 1, 0]),
            # Of several as often the one that is met first, also where another one is ahead in numbers.
            ([a, b, c, c, b, a], [0, 0, 1, 1, 0, 2, 0, 1, 3, 0, 1, 4, 1, 0]),
            ([c, b, a, a, b, c], [0, 1, 1, 1, 0, 2, 0, 0, 3, 0, 0, 4, 1, 0]),
            ([c, b, b, a, a, c], [0, 1, 1, 1, 0, 2, 1, 0, 3, 0, 0, 4, 0, 0]),
            ([a, b, b, c, c, b], [1, 0, 0, 0, 0, 3, 0, 1, 4, 0, 1]),
            ([a, b, c, c, b, c], [0, 1, 0, 0, 0, 1, 1, 0, 4, 1, 0]),
            ([a, a, a, a, a, a], [0, 0]),
            ([c, c, c, c, c, c], [0, 1]),
            ([b, a, b, a, b, a], [1, 0, 1, 0, 0, 3, 0, 0, 5, 0, 0]))
        over = [2, 2, 1]
        for rows, cells in shapes:
            table = (events, ["a"], [(False, [(list(said), way) for said, way in rows]), (True, [([], 1) for event in events])])
            sayings = [["a"], ["b"], []] if b in rows else [["a"], []]
            over[1] = len(sayings) - 1
            texts = ["a", "b"] if b in rows else ["a"]
            tail = [1, 0, 1, 1, 0] if b in rows else [1, 0, 0]
            self.packed(table, texts, [2, len(sayings), 2, 0, 0, 3, len(cells), *cells, *over, *tail])

    def test_two_pairs_of_one_saying_or_one_room(self):
        events = [QUIET, ONE, TWO, YES]
        table = (events, [], [(False, [([], 0), ([], 1), (["a"], 1), ([], 1)]), (False, [(["a"], 0), (["a"], 1), (["b"], 1), (["b"], 0)])])
        self.packed(table, ["a", "b"], [
            2, 3, 2, 0, 0, 2, 8, 0, 1, 0, 0, 0, 2, 1, 1, 11, 1, 0, 1, 1, 1, 2, 2, 1, 3, 2, 0, 0, 1, 0, 1, 1])

    def test_rooms_that_no_way_leads_to(self):
        table = ([QUIET], [], [(False, [([], 0)]), (False, [(["never"], 1)]), (True, [([], 2)])])
        self.packed(table, ["never"], [3, 2, 3, 0, 0, 2, 5, 2, 0, 0, 2, 1, 1, 2, 0, 2, 0, 1, 0])

    def test_events_in_another_order(self):
        table = ([QUIET, TWO, ONE, YES, NO], [], [(False, [([], 0), ([], 0), (["a"], 0), ([], 0), (["b"], 0)])])
        self.packed(table, ["a", "b"], [1, 3, 1, 0, 0, 8, 0, 0, 2, 1, 0, 4, 2, 0, 0, 1, 0, 1, 1])

    def test_by_chance(self):
        maker = TableMaker(91)
        for count in range(400):
            self.packed(maker.table(12))

    def test_scripts(self):
        maker = Maker(92)
        count = 0
        while count < 300:
            script = maker.script()
            if not sound(script):
                continue
            try:
                table = table_of(Teller(script), events_of(script))
            except TooMany:
                continue
            count += 1
            if len(table[2]) < 100:
                self.packed(table)
                self.packed(least_table(table)[0])

    def test_many_rooms(self):
        chance = random.Random(93)
        events = [QUIET] + [key(k) for k in range(10)] + [YES, NO]
        rooms = [(False, [([chance.choice("abcdef")], chance.randrange(2000)) for event in events]) for room in range(2000)]
        table = (events, [], rooms)
        told = pack(table)
        self.assertIs(whole_pack(*told), True)
        self.assertEqual(unpacked(told), table)
        self.assertEqual(told[2][:4], [2000, 7, 2000, 0])


class LooseCase(PackCase):
    def looked(self, events, texts, cells, answer=True):
        self.assertIs(whole_pack(events, texts, cells), answer)
        plain = plain_unpacked(events, texts, cells)
        self.assertEqual(plain is not None, answer)
        if answer:
            self.assertEqual(repr(unpacked((events, texts, cells))), repr(plain))
        return plain

    def not_whole(self, events, texts, cells):
        self.looked(events, texts, cells, False)


EVENTS = [QUIET, ONE, YES]
TEXTS = ["a", "b"]
# Two rooms, two sayings, two shapes: room 0 says a and goes to room 1 by key 1, else stays; room 1 is over.
CELLS = [2, 2, 2, 1, 0, 3, 5, 1, 0, 1, 0, 1, 2, 1, 1, 1, 0, 0]
PARTS = {"rooms": 0, "sayings": 1, "shapes": 2, "begun": 3, "room 0": 4, "room 1": 5, "length 0": 6, "common saying": 7,
         "common room": 8, "event": 9, "saying": 10, "way": 11, "length 1": 12, "over saying": 13, "over room": 14,
         "texts": 15, "text": 16, "no texts": 17}


class Whole(LooseCase):
    def test_the_pack_of_a_table(self):
        told = (EVENTS, [], [(False, [([], 0), (["a"], 1), ([], 0)]), (True, [([], 1)] * 3)])
        self.assertEqual(self.looked(EVENTS, TEXTS, CELLS), told)
        # Its own pack is another one: the sayings stand in the order in which they are met.
        self.assertEqual(pack(told)[2], [2, 2, 2, 0, 0, 3, 5, 0, 0, 1, 1, 1, 2, 0, 1, 0, 1, 0])

    def test_texts_that_no_saying_has(self):
        self.looked(EVENTS, ["a"], CELLS)
        self.looked(EVENTS, ["a", "b", "c", "d"], CELLS)
        self.not_whole(EVENTS, [], CELLS)

    def test_each_cell_changed(self):
        for place, cell in enumerate(CELLS):
            for other in (-HUGE, -2, -1, 0, 1, 2, 3, 4, 5, 6, 7, 8, 9, 1999, 2000, 2001, 4000, HUGE):
                cells = CELLS[:place] + [other] + CELLS[place + 1:]
                answer = plain_unpacked(EVENTS, TEXTS, cells) is not None
                self.assertIs(whole_pack(EVENTS, TEXTS, cells), answer, (place, other))
                if answer:
                    self.looked(EVENTS, TEXTS, cells)

    def changed(self, part, cell, answer=False):
        cells = list(CELLS)
        cells[PARTS[part]] = cell
        self.looked(EVENTS, TEXTS, cells, answer)

    def test_one_too_great(self):
        for part in ("rooms", "sayings", "shapes", "length 0", "length 1", "texts", "no texts"):
            self.changed(part, CELLS[PARTS[part]] + 1)
            self.changed(part, CELLS[PARTS[part]] - 1)
            self.changed(part, -1)
            self.changed(part, HUGE)
            self.changed(part, -HUGE)
        for part, count in (("begun", 2), ("common saying", 2), ("common room", 2), ("event", 3), ("saying", 2), ("way", 2), ("text", 2),
                            ("room 0", 4)):
            self.changed(part, count - 1 if part != "room 0" else 2, True)
            self.changed(part, count)
            self.changed(part, -1)
            self.changed(part, HUGE)
            self.changed(part, -HUGE)

    def test_cells_left_out_or_left_over(self):
        for place in range(len(CELLS)):
            self.not_whole(EVENTS, TEXTS, CELLS[:place])
            # Of three 1s one behind the other any may be left out: the first saying becomes two without texts.
            self.looked(EVENTS, TEXTS, CELLS[:place] + CELLS[place + 1:], place in (13, 14, 15))
        for added in ([0], [1], [0, 0], [-1], [HUGE], [2, 0, 0], CELLS):
            self.not_whole(EVENTS, TEXTS, CELLS + added)
            self.not_whole(EVENTS, TEXTS, added + CELLS)

    def test_no_cells(self):
        self.not_whole(EVENTS, TEXTS, [])
        self.not_whole([QUIET], [], [])
        for count in range(1, 9):
            self.not_whole(EVENTS, TEXTS, [0] * count)
            self.not_whole(EVENTS, TEXTS, [1] * count)

    def test_no_rooms(self):
        self.not_whole([QUIET], [], [0, 1, 1, 0, 2, 0, 0, 0])
        self.not_whole([QUIET], [], [0, 1, 0, 0, 0])
        self.not_whole([QUIET], [], [0, 0, 0, 0])
        self.not_whole([QUIET], [], [0, 0, 0])
        self.not_whole([QUIET], [], [-1, 1, 0, 0, 0])
        self.looked([QUIET], [], [1, 1, 1, 0, 0, 2, 0, 0, 0])

    def test_no_shapes_and_no_sayings(self):
        self.not_whole([QUIET], [], [1, 1, 0, 0, 0, 0])
        self.not_whole([QUIET], [], [1, 0, 1, 0, 0, 2, 0, 0])
        self.not_whole([QUIET], [], [1, 0, 0, 0, 0])
        self.not_whole([QUIET], [], [1, 1, -1, 0, -2, 0])

    def test_two_thousand_rooms_and_one_more(self):
        for count, answer in ((1999, True), (2000, True), (2001, False), (2002, False)):
            cells = [count, 1, 1, 0] + [0] * count + [2, 0, count - 1, 0]
            if answer:
                self.looked([QUIET], [], cells)
            self.assertIs(whole_pack([QUIET], [], cells), answer)
            # Each an over room with a shape of its own.
            cells = [count, 1, count, 0] + [2 * room + 1 for room in range(count)]
            cells += [cell for room in range(count) for cell in (2, 0, room)] + [0]
            self.assertIs(whole_pack(EVENTS, [], cells), answer)

    def test_places_that_do_not_rise(self):
        for places, answer in (((0, 1, 2), True), ((0, 2), True), ((1, 2), True), ((0,), True), ((), True), ((1, 0), False),
                               ((0, 0), False), ((2, 1), False), ((0, 1, 1), False), ((0, 2, 1), False), ((2, 2), False),
                               ((0, 1, 2, 3), False), ((3,), False), ((-1, 0), False), ((-1,), False)):
            inner = [0, 0] + [cell for place in places for cell in (place, 0, 0)]
            self.looked(EVENTS, [], [1, 1, 1, 0, 0, len(inner), *inner, 0], answer)

    def test_lengths_of_shapes(self):
        for length in range(-1, 12):
            inner = ([0, 0] + [0, 0, 0] + [1, 0, 0] + [2, 0, 0])[:max(length, 0)]
            self.looked(EVENTS, [], [1, 1, 1, 0, 0, length, *inner, 0], length in (2, 5, 8, 11))

    def test_an_over_room_that_says_something(self):
        head = [2, 2, 2, 0, 0, 3, 2, 0, 1]
        for inner, answer in (([0, 1], True), ([1, 1], False), ([0, 1, 0, 1, 1], False), ([0, 1, 2, 1, 1], False),
                              ([1, 1, 0, 0, 1, 1, 0, 1], False), ([1, 1, 0, 0, 1, 1, 0, 1, 2, 0, 1], True),
                              ([0, 1, 0, 0, 1, 2, 0, 1], True), ([1, 0, 0, 0, 1, 1, 0, 1, 2, 0, 1], True)):
            self.looked(EVENTS, TEXTS, [*head, len(inner), *inner, 0, 1, 0], answer)
            # The same rows of a room that is not over are whole.
            self.looked(EVENTS, TEXTS, [2, 2, 2, 0, 0, 2, 2, 0, 1, len(inner), *inner, 0, 1, 0])

    def test_an_over_room_that_leads_elsewhere(self):
        head = [2, 2, 2, 0, 0, 3, 2, 0, 1]
        for inner in ([0, 0], [0, 1, 0, 0, 0], [0, 1, 2, 0, 0], [0, 0, 0, 0, 1, 1, 0, 1], [0, 0, 0, 0, 1, 2, 0, 1]):
            self.not_whole(EVENTS, TEXTS, [*head, len(inner), *inner, 0, 1, 0])
        for inner in ([0, 0, 0, 0, 1, 1, 0, 1, 2, 0, 1], [0, 1, 1, 0, 1]):
            self.looked(EVENTS, TEXTS, [*head, len(inner), *inner, 0, 1, 0])

    def test_two_over_rooms_of_one_shape(self):
        self.not_whole(EVENTS, [], [2, 1, 1, 0, 1, 1, 2, 0, 1, 0])
        self.not_whole(EVENTS, [], [2, 1, 1, 0, 1, 1, 2, 0, 0, 0])
        self.looked(EVENTS, [], [2, 1, 1, 0, 1, 0, 2, 0, 0, 0])
        self.looked(EVENTS, [], [2, 1, 1, 0, 0, 1, 2, 0, 1, 0])

    def test_an_over_room_by_another_saying_without_texts(self):
        # Three sayings, two of them without texts.
        self.looked(EVENTS, TEXTS, [1, 3, 1, 1, 1, 5, 2, 0, 1, 0, 0, 0, 2, 0, 1, 0])
        self.not_whole(EVENTS, TEXTS, [1, 3, 1, 1, 1, 5, 2, 0, 1, 1, 0, 0, 2, 0, 1, 0])

    def test_shapes_and_sayings_that_nothing_has(self):
        self.looked(EVENTS, TEXTS, [1, 2, 2, 1, 0, 2, 1, 0, 5, 0, 0, 2, 1, 0, 3, 0, 1, 1, 0])
        # Such a shape is looked at, too: its rooms, sayings and events are there.
        for place, cell in ((9, 2), (10, 1), (11, 3), (12, 2), (13, 1), (15, 2)):
            cells = [1, 2, 2, 1, 0, 2, 1, 0, 5, 0, 0, 2, 1, 0, 3, 0, 1, 1, 0]
            cells[place] = cell
            self.not_whole(EVENTS, TEXTS, cells)

    def test_an_event_told_as_the_common_thing(self):
        self.looked(EVENTS, TEXTS, [1, 1, 1, 0, 0, 8, 0, 0, 0, 0, 0, 2, 0, 0, 2, 0, 1])

    def test_whole_numbers_of_sixty_figures(self):
        for place in range(len(CELLS)):
            for cell in (HUGE, -HUGE, HUGE - 1, 1 - HUGE):
                self.not_whole(EVENTS, TEXTS, CELLS[:place] + [cell] + CELLS[place + 1:])
        self.not_whole(EVENTS, TEXTS, [HUGE] * 3000)
        self.not_whole(EVENTS, TEXTS, [1, HUGE, HUGE, 0] + [0] * 2996)
        self.not_whole(EVENTS, TEXTS, [1, HUGE, 1, 0, 0, 2, 0, 0] + [0] * 2000)
        self.not_whole(EVENTS, TEXTS, [1, 1, HUGE, 0, 0] + [2, 0, 0] * 900)

    def test_nothing_is_changed(self):
        for cells in (list(CELLS), CELLS[:-1], CELLS + [0], [HUGE] * 5, []):
            told_once(self, whole_pack, list(EVENTS), list(TEXTS), cells)
        told_once(self, unpacked, (list(EVENTS), list(TEXTS), list(CELLS)))


class Loose(LooseCase):
    def test_other_packs_of_tables(self):
        maker, chance = TableMaker(94), random.Random(94)
        for count in range(400):
            table = maker.table()
            told = loose_pack(chance, table)
            self.assertEqual(repr(self.looked(*told)), repr(table))
            self.assertEqual(repr(told_once(self, unpacked, told)), repr(table))

    def test_changed_by_chance(self):
        maker, chance = TableMaker(95), random.Random(95)
        whole = parted = 0
        for count in range(4000):
            table = maker.table(3)
            events, texts, cells = loose_pack(chance, table) if count % 2 else pack(table)
            for change in range(chance.choice((1, 1, 2))):
                place = chance.randrange(len(cells))
                kind = chance.choice(("more", "more", "other", "other", "left out", "added", "changed over"))
                if kind == "more":
                    cells[place] += chance.choice((-1, 1))
                elif kind == "other":
                    cells[place] = chance.choice(cells)
                elif kind == "left out":
                    del cells[place]
                elif kind == "added":
                    cells.insert(place, chance.choice(cells))
                else:
                    place = chance.randrange(4, 4 + max(1, len(table[2])))
                    if place < len(cells):
                        cells[place] ^= 1
                if not cells:
                    break
            answer = plain_unpacked(events, texts, cells)
            self.assertIs(whole_pack(events, texts, cells), answer is not None, (events, texts, cells))
            if answer is None:
                parted += 1
            else:
                whole += 1
                self.assertEqual(repr(unpacked((events, texts, cells))), repr(answer))
        self.assertGreater(whole, 300)
        self.assertGreater(parted, 1000)


if __name__ == "__main__":
    unittest.main()
