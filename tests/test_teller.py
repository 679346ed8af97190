"""Points 2, 4, 6, 7, 13, 14, 15 and 16: scripts stepped as they stand."""

import copy
import random
import unittest

from callmill.looker import sound
from callmill.machines import Machine, events_of, run, standings
from callmill.reader import read_script
from callmill.teller import Teller
from callmill.writer import shown
from chance_scripts import Maker, chance_events
from plain_teller import set_beside

QUIET = ("quiet",)


def event_of(word):
    """quiet, a figure for a key, a word."""
    if word == "quiet":
        return QUIET
    if word in "0123456789":
        return ("key", int(word))
    return ("word", word)


def script_of(rows):
    """The script whose rows are parted by strokes."""
    return read_script("\n".join(row.strip() for row in rows.split("/")))


class Case(unittest.TestCase):
    def told(self, rows, events, answer):
        """The run of the script by events, turns parted by strokes; `over` at the end where it is over then."""
        script = script_of(rows)
        self.assertIs(sound(script), True)
        turns = [turn.split() for turn in answer.split("/")]
        ended = turns[-1][-1:] == ["over"]
        if ended:
            turns[-1].pop()
        row = [event_of(word) for word in events.split()]
        with self.subTest(rows=rows, events=events):
            machine = Teller(script)
            self.assertEqual(run(machine, row), turns)
            self.assertIs(machine.over(self.led(machine, row)), ended)

    def led(self, machine, events):
        """The standing to which the events lead."""
        standing = machine.begin()[1]
        for event in events:
            standing = machine.step(standing, event)[1]
        return standing

    def holding(self, rows, events, values):
        """The values to which the events lead."""
        script = script_of(rows)
        self.assertIs(sound(script), True)
        machine = Teller(script)
        with self.subTest(rows=rows, events=events):
            got = machine.values(self.led(machine, [event_of(word) for word in events.split()]))
            self.assertEqual(got, values)
            self.assertIs(type(got), tuple)
            for value in got:
                self.assertIs(type(value), int)


class Beginnings(Case):
    def test_it_is_a_machine(self):
        self.assertIsInstance(Teller(script_of("talk main / end")), Machine)

    def test_the_end_of_the_first_talk(self):
        self.told("talk main / end", "", "over")
        self.told("talk main / say a / hand 3 b / say c / end", "", "a 3:b c over")

    def test_only_the_first_talk_is_begun(self):
        self.told("talk main / say a / end / talk sub / say b / end", "", "a over")
        self.told("talk z / say a / end / talk main / say b / end", "", "a over")

    def test_back_and_stop_in_the_first_talk(self):
        self.told("talk main / say a / back / say b / end", "", "a over")
        self.told("talk main / say a / stop / say b / end", "", "a over")
        self.told("talk main / loop / loop / say a / back / end / end / say b / end", "", "a over")

    def test_a_wait(self):
        self.told("talk main / say a / wait 0 / end / say b / end", "", "a")

    def test_what_is_told(self):
        said, standing = Teller(script_of("box a 2 / talk main / say a / wait 0 / end / end")).begin()
        self.assertEqual(said, ["a"])
        self.assertIs(type(said), list)
        self.plain(standing)

    def plain(self, standing):
        """Of tuples, whole numbers, texts, truths and None alone."""
        if isinstance(standing, tuple):
            for part in standing:
                self.plain(part)
        else:
            self.assertIn(type(standing), (int, str, bool, type(None)))


class Over(Case):
    def test_each_step_says_nothing_and_leads_to_itself(self):
        for rows in ("talk main / end", "box a 2 / talk main / stop / end", "talk main / back / end"):
            machine = Teller(script_of(rows))
            standing = machine.begin()[1]
            self.assertIs(machine.over(standing), True)
            self.assertEqual(machine.values(standing), ())
            for event in (QUIET, ("key", 1), ("word", "a")):
                said, behind = machine.step(standing, event)
                self.assertEqual((said, behind), ([], standing))
                said.append("spoiled")
                self.assertEqual(machine.step(standing, event), ([], standing))

    def test_one_that_rests_is_not_over(self):
        machine = Teller(script_of("talk main / wait 1 / end / end"))
        self.assertIs(machine.over(machine.begin()[1]), False)

    def test_all_that_is_over_is_one(self):
        rows = "box a 5 / talk main / wait 0 / on key 1 / put a 1 / stop / on key 2 / put a 2 / on key 3 / back / end / end"
        machine = Teller(script_of(rows))
        start = machine.begin()[1]
        ends = [machine.step(start, ("key", key))[1] for key in (1, 2, 3)]
        self.assertEqual(ends[0], ends[1])
        self.assertEqual(ends[0], ends[2])
        self.assertEqual(machine.values(ends[1]), ())


class Puts(Case):
    def test_all_boxes_at_0_at_the_beginning(self):
        self.holding("box a 2 / box b 5 / talk main / wait 0 / end / end", "", (0, 0))
        self.holding("talk main / wait 0 / end / end", "", ())

    def test_the_rest_below_the_size(self):
        for size in range(2, 6):
            for n in range(10):
                self.holding("box a {} / talk main / put a {} / wait 0 / end / end".format(size, n), "", (n % size,))
            self.holding("box a {} / talk main / put a ( 9 + 8 ) / wait 0 / end / end".format(size), "", (17 % size,))

    def test_of_a_worth_below_0(self):
        for size in range(2, 6):
            for n in range(10):
                rest = [place for place in range(size) if (place + n) % size == 0][0]
                self.holding("box a {} / talk main / put a ( 0 - {} ) / wait 0 / end / end".format(size, n), "", (rest,))
        self.holding("box a 5 / talk main / put a ( ( 0 - 9 ) - 9 ) / wait 0 / end / end", "", (2,))

    def test_each_box_by_its_name_and_by_its_size(self):
        rows = "box a 2 / box b 5 / box c 3 / talk main / put {} ( c + 8 ) / wait 0 / end / end"
        self.holding(rows.format("a"), "", (0, 0, 0))
        self.holding(rows.format("b"), "", (0, 3, 0))
        self.holding(rows.format("c"), "", (0, 0, 2))

    def test_by_the_values_of_then(self):
        rows = "box a 5 / box b 5 / talk main / put a 3 / put b ( a - 1 ) / put a ( a + b ) / wait 0 / end / end"
        self.holding(rows, "", (0, 2))

    def test_turn_by_turn(self):
        rows = "box a 3 / talk main / loop / wait 0 / on key 1 / put a ( a + 1 ) / on key 2 / put a ( a - 1 ) / end / end / end"
        for events, value in (("", 0), ("1", 1), ("1 1", 2), ("1 1 1", 0), ("2", 2), ("2 2", 1), ("1 quiet 3 yes 1", 2)):
            self.holding(rows, events, (value,))


class Tests(Case):
    def test_both_ways(self):
        rows = "box a 5 / talk main / put a {} / if a < 2 / say yes / else / say no / end / say c / end"
        for n in range(5):
            self.told(rows.format(n), "", ("yes" if n < 2 else "no") + " c over")

    def test_without_a_body(self):
        self.told("box a 2 / talk main / if a = 0 / end / say c / end", "", "c over")
        self.told("box a 2 / talk main / if a = 1 / say b / end / say c / end", "", "c over")
        self.told("box a 2 / talk main / if a = 0 / else / say b / end / say c / end", "", "c over")

    def test_within_one_another(self):
        rows = ("box a 5 / talk main / put a {} / if a < 2 / if a = 0 / say u / else / say v / end / say w / else / "
                "if ( not a = 2 and a < 4 ) / say x / else / say y / end / end / say z / end")
        for n, answer in enumerate(("u w", "v w", "y", "x", "y")):
            self.told(rows.format(n), "", answer + " z over")


class Loops(Case):
    def test_again_and_again(self):
        self.told("talk main / loop / say a / wait 0 / on other / end / say b / end / end", "1 2 3",
                  "a / b a / b a / b a")

    def test_leave(self):
        self.told("talk main / loop / say a / leave / say b / end / say c / end", "", "a c over")
        self.told("talk main / loop / wait 0 / on key 1 / leave / on other / end / say b / end / say c / end", "2 1",
                  "/ b / c over")

    def test_again(self):
        self.told("talk main / loop / say a / wait 0 / on key 1 / again / on other / end / say b / end / end", "1 2 1",
                  "a / a / b a / a")

    def test_the_inmost_loop_is_meant(self):
        rows = "talk main / loop / say a / loop / say b / wait 0 / on key 1 / leave / on key 2 / again / end / say c / end / say d / end / end"
        self.told(rows, "1 2 1 2", "a b / d a b / b / d a b / b")

    def test_leave_of_the_outer_one_behind_the_inner_one(self):
        rows = "talk main / loop / loop / wait 0 / on other / end / leave / end / say a / leave / end / say b / end"
        self.told(rows, "1", "/ a b over")

    def test_again_behind_the_inner_loop(self):
        rows = ("box a 2 / talk main / loop / say a / wait 0 / on other / end / loop / leave / end / "
                "if a = 0 / again / end / end / end")
        self.told(rows, "1 1", "a / a / a")

    def test_a_loop_that_is_left_is_begun_anew(self):
        rows = "talk main / loop / loop / say a / wait 0 / on key 1 / leave / end / end / say b / end / end"
        self.told(rows, "1 1 2", "a / b a / b a /")

    def test_a_body_that_ends_within_blocks(self):
        rows = ("box a 2 / talk main / loop / wait 0 / on key 1 / if a = 0 / put a 1 / if a = 1 / say b / end / end / "
                "on key 2 / if a = 1 / leave / end / end / end / say c / end")
        self.told(rows, "2 1 1 2", "/ / b / / c over")


class Calls(Case):
    def test_goes_on_behind(self):
        self.told("talk main / say a / call sub / say c / end / talk sub / say b / end", "", "a b c over")
        self.told("talk main / say a / call sub / say c / end / talk sub / say b / back / say d / end", "", "a b c over")

    def test_stop_is_the_end_of_all(self):
        self.told("talk main / call sub / say c / end / talk sub / call deep / say d / end / talk deep / say b / stop / end",
                  "", "b over")

    def test_twice_and_within_one_another(self):
        rows = "talk main / call a / call b / call a / say d / end / talk b / say b / call a / call a / end / talk a / say a / end"
        self.told(rows, "", "a b a a a d over")

    def test_waits_in_them(self):
        rows = ("talk main / call sub / say a / call sub / say b / end / "
                "talk sub / say c / wait 2 / on key 1 / back / on none / say e / end / say d / end")
        self.told(rows, "1 1", "c / a c / b over")
        self.told(rows, "quiet quiet 2 2", "c / / e d a c / / e d b over")

    def test_back_out_of_blocks(self):
        rows = ("talk main / loop / call sub / say b / leave / end / say c / end / "
                "talk sub / loop / wait 0 / on key 1 / loop / back / end / end / end / end")
        self.told(rows, "2 1", "/ / b c over")

    def test_at_the_end_of_a_talk(self):
        rows = ("box a 2 / talk main / call sub / say c / end / talk sub / if a = 0 / call deep / end / end / "
                "talk deep / say b / wait 0 / on key 1 / back / on key 2 / end / end")
        self.told(rows, "1", "b / c over")
        self.told(rows, "2", "b / c over")

    def test_in_a_loop_as_its_last_statement(self):
        rows = "talk main / loop / say a / call sub / end / end / talk sub / wait 0 / on key 1 / back / on other / say b / end / end"
        self.told(rows, "1 2 1", "a / a / b a / a")

    def test_as_the_last_one_of_a_loop_within_a_called_talk(self):
        rows = ("talk main / call sub / say d / end / talk sub / loop / call deep / end / end / "
                "talk deep / say a / wait 0 / on key 1 / on key 2 / back / on key 3 / stop / end / end")
        self.told(rows, "1 2 3", "a / a / a / over")

    def test_the_boxes_are_of_all(self):
        rows = "box a 5 / talk main / put a 2 / call sub / wait 0 / end / end / talk sub / put a ( a + 1 ) / end"
        self.holding(rows, "", (3,))

    def test_a_later_talk_that_calls_an_earlier_one(self):
        self.told("talk main / call b / end / talk a / say a / end / talk b / call a / say b / end", "", "a b over")

    def test_eight_talks_deep(self):
        talks = ["talk main / say m / call a / say m / end"]
        for name, called in zip("abcdef", "bcdefg"):
            talks.append("talk {0} / say {0} / call {1} / say {0} / end".format(name, called))
        talks.append("talk g / wait 0 / on other / back / end / end")
        self.told(" / ".join(talks), "quiet 1", "m a b c d e f / / f e d c b a m over")


class Waits(Case):
    rows = ("talk main / loop / wait {} / on other / say o / on key 1 / say k / on word yes / say w / on key 2 / end / "
            "say b / end / end")

    def test_the_very_pattern_ahead_of_other(self):
        for limit in (0, 2):
            self.told(self.rows.format(limit), "1 2 3 yes no other key", "/ k b / b / o b / w b / o b / o b / o b")

    def test_a_turn_goes_by_where_there_is_no_branch(self):
        rows = "talk main / wait {} / on key 1 / say k / on word yes / say w / on none / say n / end / say b / end"
        self.told(rows.format(1), "1", "/ k b over")
        self.told(rows.format(1), "yes", "/ w b over")
        for event in ("quiet", "2", "no", "none"):
            self.told(rows.format(1), event, "/ n b over")
            self.told(rows.format(2), event, "/")
            self.told(rows.format(2), event + " 1", "/ / k b over")
            self.told(rows.format(3), event + " quiet 0", "/ / / n b over")

    def test_other_is_for_no_quiet(self):
        rows = "talk main / wait {} / on other / say o / end / say b / end"
        self.told(rows.format(2), "quiet 1", "/ / o b over")
        self.told(rows.format(2), "quiet quiet", "/ / b over")
        self.told(rows.format(0), "quiet quiet quiet", "/ / /")
        self.told(rows.format(2), "quiet yes", "/ / o b over")

    def test_each_limit(self):
        for limit in range(1, 10):
            rows = "talk main / wait {} / on none / say n / end / say b / end".format(limit)
            self.told(rows, " ".join(["quiet"] * (limit - 1)), " / " * (limit - 1))
            self.told(rows, " ".join(["quiet"] * limit), " / " * limit + "n b over")
            self.told(rows, " ".join(["quiet", "4", "no"] * 3), " / " * limit + "n b" + " / " * (9 - limit) + " over")

    def test_the_last_turn_without_a_branch_for_none(self):
        self.told("talk main / wait 1 / end / say b / end", "quiet", "/ b over")
        self.told("talk main / wait 2 / on key 1 / say k / end / say b / end", "2 no", "/ / b over")
        self.told("talk main / wait 1 / end / end", "quiet", "/ over")
        self.told("talk main / loop / wait 1 / end / end / end", "quiet 1 a", "/ / /")

    def test_without_a_limit(self):
        rows = "talk main / wait 0 / on key 1 / say k / end / say b / end"
        self.told(rows, "quiet 2 no " * 7 + "1", "/ " * 22 + "k b over")
        self.told("talk main / wait 0 / end / say b / end", "quiet 1 a other", "/ / / /")

    def test_rests_with_all_turns_again(self):
        rows = "talk main / loop / wait 2 / on key 1 / say k / on none / say n / end / end / end"
        self.told(rows, "quiet 1 quiet quiet quiet 1 quiet quiet", "/ / k / / n / / k / / n")

    def test_waits_within_branches(self):
        rows = ("talk main / wait 2 / on key 1 / wait 1 / on key 1 / say i / on none / say j / end / say k / "
                "on none / wait 0 / on other / say m / end / end / say z / end")
        self.told(rows, "1 1", "/ / i k z over")
        self.told(rows, "1 2", "/ / j k z over")
        self.told(rows, "2 2 quiet 1", "/ / / / m z over")

    def test_a_branch_that_ends_the_talk(self):
        rows = "talk main / wait 1 / on key 1 / say k / stop / say x / on none / back / end / say b / end"
        self.told(rows, "1", "/ k over")
        self.told(rows, "quiet", "/ over")

    def test_words_like_other_things(self):
        rows = "talk main / loop / wait 0 / on word none / say n / on word other / say o / on word quiet / say q / end / end / end"
        script = script_of(rows)
        events = [("word", "none"), ("word", "other"), ("word", "quiet"), QUIET, ("word", "key"), ("key", 0)]
        self.assertEqual(run(Teller(script), events), [[], ["n"], ["o"], ["q"], [], [], []])


class Standing(Case):
    def test_unlike_where_they_do_otherwise(self):
        rows = ("box a 3 / talk main / loop / wait 3 / on key 1 / put a ( a + 1 ) / on none / end / call sub / say b / call sub / "
                "end / end / talk sub / wait 2 / on key 1 / end / end")
        script = script_of(rows)
        machine = Teller(script)
        found = [standing for standing, over in standings(machine, events_of(script))]
        self.assertEqual(len(found), len(set(found)))
        self.assertEqual(len(found), 3 * (3 + 2 + 2))

    def test_the_same_step_asked_twice(self):
        maker = Maker(21)
        chance = random.Random(21)
        for count in range(60):
            script = maker.script()
            if not sound(script):
                continue
            machine = Teller(script)
            first = machine.begin()
            first_said = list(first[0])
            machine.begin()[0].append("spoiled")
            self.assertEqual(machine.begin(), (first_said, first[1]))
            standing = first[1]
            for event in chance_events(chance, 8):
                told = machine.step(standing, event)
                said = list(told[0])
                machine.step(standing, QUIET)
                machine.begin()
                told[0].append("spoiled")
                self.assertEqual(machine.step(standing, event), (said, told[1]))
                standing = told[1]

    def test_in_whatever_order_they_are_asked(self):
        script = script_of("box a 3 / talk main / loop / wait 2 / on key 1 / put a ( a + 1 ) / say k / on none / say n / end / end / end")
        machine = Teller(script)
        found = [standing for standing, over in standings(machine, events_of(script))]
        forth = [machine.step(standing, event) for standing in found for event in events_of(script)]
        other = Teller(script)
        back = [other.step(standing, event) for standing in reversed(found) for event in reversed(events_of(script))]
        self.assertEqual(forth, list(reversed(back)))


class NothingKept(Case):
    def spoil(self, thing):
        """Empties every list in the thing."""
        if isinstance(thing, (list, tuple)):
            for part in thing:
                self.spoil(part)
        if isinstance(thing, list):
            thing.clear()

    def test_the_script_changed_afterwards(self):
        maker = Maker(22)
        chance = random.Random(22)
        for count in range(100):
            script = maker.script()
            if not sound(script):
                continue
            rows = [chance_events(chance, 10) for place in range(3)]
            machine = Teller(script)
            before = copy.deepcopy(script)
            answers = [run(machine, row) for row in rows]
            found = standings(machine, events_of(before))
            self.assertEqual(script, before)
            self.spoil(script)
            self.assertEqual([run(machine, row) for row in rows], answers, shown(before))
            self.assertEqual(standings(machine, events_of(before)), found)

    def test_each_list_of_it_changed_by_itself(self):
        inner, second, branches, loop, main, sub, boxes, talks = [], [], [], [], [], [], [], []
        boxes.append(("a", 3))
        talks += [("main", main), ("sub", sub)]
        main += [("loop", loop), ("say", "z")]
        loop += [("wait", 2, branches), ("test", ("same", ("box", "a"), ("number", 0)), inner, second)]
        branches += [(("key", 1), [("put", "a", ("plus", ("box", "a"), ("number", 1)))]), (("none",), [("leave",)])]
        inner.append(("call", "sub"))
        second.append(("say", "b"))
        sub.append(("say", "c"))
        script = (boxes, talks)
        events = [("key", 1), ("key", 1), ("key", 1), QUIET, QUIET]
        self.assertIs(sound(script), True)
        machine = Teller(script)
        answer = [[], ["b"], ["b"], ["c"], [], ["z"]]
        self.assertEqual(run(machine, events), answer)
        boxes[0] = ("a", 5)
        boxes.append(("b", 2))
        for each in (inner, second, loop, main, sub):
            each.insert(0, ("say", "spoiled"))
            self.assertEqual(run(machine, events), answer)
        branches.reverse()
        branches.pop()
        talks.reverse()
        self.assertEqual(run(machine, events), answer)
        self.assertEqual(machine.values(machine.begin()[1]), (0,))


class BesideAnotherTeller(unittest.TestCase):
    def test_made_by_chance(self):
        maker = Maker(23)
        chance = random.Random(23)
        count = turns = ended = 0
        while count < 500:
            script = maker.script()
            if not sound(script):
                continue
            count += 1
            machine = Teller(script)
            for row in range(4):
                told = set_beside(self, machine, script, chance_events(chance, 15))
                turns += told[0]
                ended += told[1]
        self.assertGreater(turns, 500)
        self.assertGreater(ended, 100)


if __name__ == "__main__":
    unittest.main()
