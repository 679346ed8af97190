"""Points 2, 3, 4, 17, 19 and 35: two scripts, told alike or unlike."""

import copy
import itertools
import random
import unittest

from callmill.alike import both_events, told_alike
from callmill.errors import MillError, TooMany
from callmill.looker import sound
from callmill.machines import events_of, standings
from callmill.papers import found_paper, right_paper
from callmill.reader import read_script
from callmill.teller import Teller
from chance_scripts import Maker
from graph_case import QUIET, key, plainly_right, word
from own_lists import told_once
from plain_teller import PlainTeller

ONE, TWO, THREE = key(1), key(2), key(3)


def script_of(*rows):
    """The script of one talk that these rows write, or of boxes and talks where a row begins with talk."""
    text = "\n".join(rows)
    if "talk " not in text:
        text = "talk main\n" + text + "\nend"
    return read_script(text)


def waits(*patterns, limit=0):
    """A wait with a branch without statements for each pattern, as texts."""
    return ["wait %d" % limit] + ["on " + pattern for pattern in patterns] + ["end"]


def parts_at(one, other, row):
    """Whether the runs of both differ at the row's end, or one alone is over there."""
    tellers = (PlainTeller(one), PlainTeller(other))
    said = [teller.begin() for teller in tellers]
    for event in row:
        said = [teller.turn(event) for teller in tellers]
    return said[0] != said[1] or tellers[0].is_over is not tellers[1].is_over


def shortest(one, other, events, longest):
    """The first of the shortest rows that part both, all of them gone through up to a length."""
    for length in range(longest + 1):
        for row in itertools.product(events, repeat=length):
            if parts_at(one, other, row):
                return list(row)
    return None


class BothEvents(unittest.TestCase):
    def told(self, one, other, keys, words):
        events = [QUIET] + [key(k) for k in keys] + [word(w) for w in words]
        self.assertEqual(repr(told_once(self, both_events, one, other)), repr(events))
        self.assertEqual(repr(told_once(self, both_events, other, one)), repr(events))

    def test_without_patterns(self):
        self.told(script_of(), script_of("say a"), [0], ["a"])
        self.told(script_of(*waits()), script_of(*waits("other", "none", limit=3)), [0], ["a"])

    def test_of_both(self):
        self.told(script_of(*waits("key 3", "key 1")), script_of(*waits("key 0")), [0, 1, 3, 2], ["a"])
        self.told(script_of(*waits("word yes", "word a")), script_of(*waits("word b", "word no")), [0], ["a", "b", "no", "yes", "c"])
        self.told(script_of(*waits("key 9", "word z")), script_of(*waits("word a", "key 0", "other")), [0, 9, 1], ["a", "z", "b"])

    def test_the_same_in_both(self):
        self.told(script_of(*waits("key 3", "word a")), script_of(*waits("word a", "key 3")), [3, 0], ["a", "b"])

    def test_of_one_alone(self):
        one = script_of(*waits("key 0", "word no"), *waits("key 5", "word a"))
        self.told(one, script_of(), [0, 5, 1], ["a", "no", "b"])
        self.assertEqual(both_events(one, one), events_of(one))

    def test_all_ten_keys(self):
        one, other = ["key %d" % k for k in range(0, 10, 2)], ["key %d" % k for k in range(9, 0, -2)]
        self.told(script_of(*waits(*one)), script_of(*waits(*other)), range(10), ["a"])
        self.told(script_of(*waits(*one)), script_of(*waits(*other[1:])), [0, 1, 2, 3, 4, 5, 6, 7, 8, 9], ["a"])
        self.told(script_of(*waits(*one)), script_of(*waits(*other[:-1])), [0, 2, 3, 4, 5, 6, 7, 8, 9, 1], ["a"])

    def test_words_of_one_letter_and_of_two(self):
        letters = "abcdefghijklmnopqrstuvwxyz"
        one, other = ["word " + w for w in letters[:13]], ["word " + w for w in letters[13:]]
        self.told(script_of(*waits(*one)), script_of(*waits(*other)), [0], sorted(letters) + ["aa"])
        other += ["word aa", "word ab", "word ac"]
        self.told(script_of(*waits(*one)), script_of(*waits(*other)), [0], sorted(list(letters) + ["aa", "ab", "ac"]) + ["ad"])
        self.told(script_of(*waits(*one)), script_of(*waits(*other[1:])), [0], sorted(set(letters + "") - {"n"} | {"aa", "ab", "ac"}) + ["n"])

    def test_talks_that_are_never_called(self):
        one = script_of("talk main", "end", "talk sub", *waits("key 4", "word b"), "end")
        other = script_of("talk main", *waits("key 7"), "end", "talk sub", "loop", *waits("word a", "other"), "end", "end")
        self.told(one, other, [4, 7, 0], ["a", "b", "c"])

    def test_patterns_within_others(self):
        one = script_of("loop", "wait 1", "on key 1", *waits("key 2", "word in"), "on none", "if 0 = 0", *waits("key 8"), "end", "end", "end")
        self.assertTrue(sound(one))
        self.told(one, script_of(), [1, 2, 8, 0], ["in", "a"])


class AlikeCase(unittest.TestCase):
    def alike(self, one, other):
        for script in (one, other):
            self.assertTrue(sound(script))
        events = both_events(one, other)
        for first, second in ((one, other), (other, one)):
            told = told_once(self, told_alike, first, second)
            self.assertIs(type(told), tuple)
            self.assertEqual(told[0], "alike")
            self.assertEqual(len(told), 2)
            self.assertIs(type(told[1]), list)
            tellers = (Teller(first), Teller(second))
            self.assertIs(plainly_right(*tellers, events, told[1]), True)
            self.assertIs(right_paper(*tellers, events, told[1]), True)

    def unlike(self, one, other, row):
        for script in (one, other):
            self.assertTrue(sound(script))
        for first, second in ((one, other), (other, one)):
            self.assertEqual(told_once(self, told_alike, first, second), ("unlike", row))
        self.assertTrue(parts_at(one, other, row))


class Alike(AlikeCase):
    def test_the_same(self):
        for script in (script_of(), script_of("say a", *waits("key 1")), script_of("loop", *waits("other"), "say a", "end")):
            self.alike(script, copy.deepcopy(script))

    def test_written_otherwise(self):
        one = script_of("loop", "wait 2", "on key 1", "say a", "on none", "say b", "end", "end")
        other = script_of("talk begin", "loop", "wait 2", "on none", "call none", "again", "on key 1", "say a", "end", "end", "end",
                          "talk none", "if 1 < 2", "say b", "back", "end", "say never", "end")
        self.alike(one, other)

    def test_of_other_boxes(self):
        one = script_of("box a 2", "talk main", "loop", "wait 0", "on key 1", "put a ( 1 - a )", "if a = 1", "say odd", "end", "end",
                        "end", "end")
        other = script_of("box b 4", "box c 3", "talk main", "loop", "wait 0", "on key 1", "put b ( b + 1 )", "put c b",
                          "if not ( not b = 1 and not b = 3 )", "say odd", "end", "end", "end", "end")
        self.alike(one, other)

    def test_one_that_unrolls_the_other(self):
        one = script_of("loop", *waits("key 1"), "say a", "end")
        other = script_of("loop", *waits("key 1"), "say a", *waits("key 1"), "say a", *waits("key 1"), "say a", "end")
        self.alike(one, other)

    def test_branches_that_do_what_other_does(self):
        one = script_of("loop", "wait 0", "on other", "say a", "end", "end")
        rows = ["loop", "wait 0", "on other", "say a", "on key 4", "say a", "on word no", "say a", "end", "end"]
        self.alike(one, script_of(*rows))

    def test_limits_that_nothing_tells_apart(self):
        one = script_of("loop", *waits(limit=2), "end")
        other = script_of("loop", *waits(limit=9), *waits(limit=5), "end")
        self.alike(one, other)


class Unlike(AlikeCase):
    def test_at_the_beginning(self):
        wait = waits("key 1")
        for one, other in ((["say a"], ["say b"]), (["say a"], []), (["say a", "say b"], ["say b", "say a"]),
                           (["say a", "say a"], ["say a"]), (["hand 3 a"], ["hand 4 a"]), (["hand 3 a"], ["say a"])):
            self.unlike(script_of(*one), script_of(*other), [])
            self.unlike(script_of(*one, *wait), script_of(*other, *wait), [])

    def test_over_at_the_beginning(self):
        self.unlike(script_of("say a"), script_of("say a", *waits("key 1")), [])
        self.unlike(script_of(), script_of("loop", *waits(), "end"), [])

    def test_at_the_first_event(self):
        one = script_of("loop", "wait 0", "on key 1", "say a", "on key 2", "say b", "on word no", "say c", "end", "end")
        for changed, event in (("say a", ONE), ("say b", TWO), ("say c", word("no"))):
            text = ["loop", "wait 0", "on key 1", "say a", "on key 2", "say b", "on word no", "say c", "end", "end"]
            text[text.index(changed)] = "say x"
            self.unlike(one, script_of(*text), [event])

    def test_by_a_key_or_word_that_no_branch_has(self):
        one = script_of("loop", "wait 0", "on key 1", "say a", "end", "end")
        self.unlike(one, script_of("loop", "wait 0", "on key 1", "say a", "on other", "say a", "end", "end"), [key(0)])
        one = script_of("loop", "wait 0", *["on key %d" % k for k in range(10)], "end", "end")
        other = script_of("loop", "wait 0", "on other", "end", "end")
        self.alike(one, other)
        self.unlike(one, script_of("loop", "wait 0", *["on key %d" % k for k in range(10)], "on other", "say a", "end", "end"),
                    [word("a")])

    def test_behind_many(self):
        for limit in (1, 2, 9):
            one = script_of("loop", "wait %d" % limit, "on none", "say a", "end", "end")
            other = script_of("loop", "wait %d" % limit, "on none", "say b", "end", "end")
            self.unlike(one, other, [QUIET] * limit)
        one = script_of("wait 0", "on key 3", "wait 0", "on key 1", "wait 0", "on word no", "say a", "end", "end", "end")
        other = script_of("wait 0", "on key 3", "wait 0", "on key 1", "wait 0", "on word no", "say b", "end", "end", "end")
        self.unlike(one, other, [THREE, ONE, word("no")])
        one = script_of("loop", *waits("other"), "end")
        other = script_of("box a 5", "box b 5", "talk main", "loop", *waits("other"), "put a ( a + 1 )", "if a = 0", "put b ( b + 1 )",
                          "if b = 0", "say end", "end", "end", "end", "end")
        self.unlike(one, other, [key(0)] * 25)

    def test_by_being_over_alone(self):
        self.unlike(script_of("wait 0", "on key 1", "stop", "end", *waits()), script_of(*waits("key 1"), *waits()), [ONE])
        self.unlike(script_of(*waits("key 1")), script_of(*waits("key 1"), *waits()), [ONE])
        self.unlike(script_of(*waits("key 1", limit=3)), script_of("loop", *waits("key 1"), "end"), [ONE])
        self.unlike(script_of(*waits(limit=3)), script_of("loop", *waits(), "end"), [QUIET] * 3)

    def test_of_several_shortest_the_first(self):
        one = script_of("loop", "wait 0", "on key 2", "say a", "on key 1", "say b", "on word no", "end", "end")
        other = script_of("loop", "wait 0", "on word no", "say b", "on key 2", "say b", "on key 1", "say c", "end", "end")
        self.unlike(one, other, [ONE])
        # Of two rows of two events that which begins with the earlier event; the later event of it comes first in the list.
        rows = ["wait 0", "on key 1", "wait 0", "on key 2", "say a", "end", "on key 2", "wait 0", "on key 1", "say a", "end", "end"]
        one = script_of(*rows)
        rows[4] = rows[9] = "say b"
        self.unlike(one, script_of(*rows), [ONE, TWO])
        rows[4] = "say a"
        self.unlike(one, script_of(*rows), [TWO, ONE])

    def test_a_short_one_ahead_of_an_earlier_one(self):
        rows = ["wait 0", "on key 1", "wait 0", "on key 1", "say a", "end", "on key 2", "say a", "end"]
        one = script_of(*rows)
        rows[4] = rows[7] = "say b"
        self.unlike(one, script_of(*rows), [TWO])

    def test_quiet_first(self):
        one = script_of("wait 1", "on key 1", "say a", "end")
        self.unlike(one, script_of("wait 1", "on key 1", "say b", "on none", "say b", "end"), [QUIET])
        self.unlike(one, script_of("wait 2", "on key 1", "say a", "end"), [QUIET])

    def test_other_limits(self):
        self.unlike(script_of("loop", *waits(limit=3), "say a", "end"), script_of("loop", *waits(limit=2), "say a", "end"), [QUIET] * 2)


def counter(size, *more):
    """A script of size * 25 standings, counting by keys 1, 2 and 3."""
    rows = ["box a %d" % size, "box b 5", "box c 5", "talk main", "loop", "wait 0"]
    for number, name in enumerate("abc", 1):
        rows += ["on key %d" % number, "put %s ( %s + 1 )" % (name, name)]
    return script_of(*rows, *more, "end", "end", "end")


def round_rows(count, *rows):
    """A loop of so many turns, one row of waits behind the other, and what is done behind them."""
    return ["loop", *quiet_rows(count), *rows, "end"]


def quiet_rows(count):
    """Waits for so many turns in all."""
    found = []
    for limit in [9] * (count // 9) + ([count % 9] if count % 9 else []):
        found += waits(limit=limit)
    return found


BIG = ["on key 4", "wait 9", "on key 0", "end", "wait 5", "on key 0", "end"]


class Most(unittest.TestCase):
    def refused(self, one, other):
        for first, second in ((one, other), (other, one)):
            self.assertTrue(sound(first))
            before = copy.deepcopy((first, second))
            with self.assertRaises(TooMany) as caught:
                told_alike(first, second)
            self.assertIsInstance(caught.exception, MillError)
            self.assertEqual((first, second), before)

    def test_just_two_thousand_standings(self):
        one = counter(5, *BIG)
        self.assertEqual(len(standings(Teller(one), events_of(one))), 125 * 15)
        self.assertEqual(told_alike(one, one)[0], "alike")
        self.assertEqual(len(told_alike(one, one)[1]), 125 * 15)
        one = counter(5, "on key 4", "wait 9", "on key 0", "end", "wait 6", "on key 0", "end")
        self.assertEqual(len(standings(Teller(one), events_of(one))), 2000)
        self.assertEqual(told_alike(one, one)[0], "alike")
        self.assertEqual(told_alike(one, script_of("say a")), ("unlike", []))
        self.assertEqual(told_alike(script_of("say a"), one), ("unlike", []))

    def test_more_standings_of_one(self):
        one = counter(5, "on key 4", "wait 9", "on key 0", "end", "wait 6", "on key 0", "end", "on key 5", "stop")
        self.refused(one, one)
        # Ahead of unlike, also where they part at the beginning.
        self.refused(one, script_of("say a"))
        self.refused(one, script_of())
        self.refused(one, counter(5))

    def test_more_pairs(self):
        # Rounds of 40 and 49 turns come to 1960 pairs, of 41 and 49 to 2009.
        one, other = script_of(*round_rows(40)), script_of(*round_rows(49))
        self.assertEqual(told_alike(one, other)[0], "alike")
        self.assertEqual(len(told_alike(one, other)[1]), 1960)
        self.refused(script_of(*round_rows(41)), other)
        self.assertEqual(len(told_alike(other, other)[1]), 49)

    def test_just_two_thousand_pairs(self):
        # 40 turns ahead of both rounds.
        one, other = [script_of(*quiet_rows(40), *round_rows(count)) for count in (40, 49)]
        self.assertEqual(len(told_alike(one, other)[1]), 2000)
        one, other = [script_of(*quiet_rows(41), *round_rows(count)) for count in (40, 49)]
        self.refused(one, other)
        with self.assertRaises(TooMany):
            found_paper(Teller(one), Teller(other), both_events(one, other))

    def test_pairs_ahead_of_unlike(self):
        # By key 1 they part at once; key 2 leads to too many pairs nevertheless.
        for count, many in ((40, False), (41, True)):
            one, other = [script_of("wait 0", "on key 1", "say " + said, "on key 2", *round_rows(size), "end")
                          for size, said in ((count, "a"), (49, "b"))]
            if many:
                self.refused(one, other)
            else:
                self.assertEqual(told_alike(one, other), ("unlike", [ONE]))

    def test_pairs_behind_a_parting_are_not_counted(self):
        # The rounds are come to only by the key at which both part, or behind beginnings that part.
        one, other = [script_of("wait 0", "on key 1", "say " + said, *round_rows(size), "end") for size, said in ((44, "a"), (49, "b"))]
        self.assertEqual(told_alike(one, other), ("unlike", [ONE]))
        one, other = [script_of("say " + said, *round_rows(size)) for size, said in ((44, "a"), (49, "b"))]
        self.assertEqual(told_alike(one, other), ("unlike", []))
        # Rounds that say something at their ends part at the end of the shorter one.
        one, other = [script_of(*round_rows(size, "say a")) for size in (48, 49)]
        self.assertEqual(told_alike(one, other), ("unlike", [QUIET] * 48))


class ByChance(AlikeCase):
    def changed(self, chance, thing):
        """The body with a statement changed here and there."""
        body = []
        for statement in thing:
            if statement[0] == "say" and chance.random() < 0.15:
                statement = ("say", "other")
            elif statement[0] == "put" and chance.random() < 0.15:
                statement = ("put", statement[1], ("number", 1))
            elif statement[0] == "test":
                statement = (*statement[:2], *[self.changed(chance, inner) for inner in statement[2:]])
            elif statement[0] == "wait":
                branches = [(pattern, self.changed(chance, inner)) for pattern, inner in statement[2]]
                if chance.random() < 0.3:
                    branches.reverse()
                limit = statement[1]
                if limit > 1 and chance.random() < 0.15:
                    limit -= 1
                statement = ("wait", limit, branches)
            elif statement[0] == "loop":
                statement = ("loop", self.changed(chance, statement[1]))
            body.append(statement)
        return body

    def test_scripts_and_changed_ones(self):
        maker, chance = Maker(81), random.Random(81)
        counts = {}
        made = 0
        while made < 500:
            one = maker.script()
            other = (one[0], [(name, self.changed(chance, body)) for name, body in one[1]])
            if not sound(one) or not sound(other) or len(one[1][0][1]) == 0:
                continue
            events = both_events(one, other)
            try:
                told = told_alike(one, other)
            except TooMany:
                continue
            made += 1
            longest = 3 if len(events) <= 7 else 2
            if told[0] == "alike":
                counts["alike"] = counts.get("alike", 0) + (len(told[1]) > 2)
                self.assertIs(plainly_right(Teller(one), Teller(other), events, told[1]), True)
                self.assertIsNone(shortest(one, other, events, longest - 1))
            else:
                row = told[1]
                counts[min(len(row), 3)] = counts.get(min(len(row), 3), 0) + 1
                self.assertTrue(parts_at(one, other, row))
                self.assertEqual(shortest(one, other, events, min(longest, len(row))), row if len(row) <= longest else None)
                for length in range(len(row)):
                    self.assertFalse(parts_at(one, other, row[:length]))
            self.assertEqual(told_alike(other, one)[0], told[0])
            if told[0] == "unlike":
                self.assertEqual(told_alike(other, one), told)
        self.assertGreater(counts["alike"], 30)
        for length in (1, 2, 3):
            self.assertGreater(counts[length], 3)


if __name__ == "__main__":
    unittest.main()
