"""Points 2, 13, 16, 17 and 18: machines, runs, events, standings."""

import copy
import itertools
import string
import unittest

from callmill.errors import MillError, NoForm, NoneYet, NoScript, TooMany
from callmill.machines import Machine, events_of, run, standings
from callmill.teller import Teller

QUIET = ("quiet",)
ONE, TWO, YES = ("key", 1), ("key", 2), ("word", "yes")


class Counter(Machine):
    """Counts keys to below a number; it says the count, and always tells the very same list."""

    def __init__(self, rooms, last=None):
        self.rooms = rooms
        self.last = last
        self.said = ["begin"]

    def begin(self):
        self.said[:] = ["begin"]
        return (self.said, 0)

    def step(self, standing, event):
        self.said[:] = []
        if standing == self.last:
            return (self.said, standing)
        if event[0] == "key":
            standing = (standing + event[1]) % self.rooms
            self.said.append(str(standing))
        return (self.said, standing)

    def over(self, standing):
        return standing == self.last

    def values(self, standing):
        return ()


class Drawn(Machine):
    """Goes by a dict of (standing, event) to standings, else stays."""

    def __init__(self, ways, last=()):
        self.ways = ways
        self.last = last

    def begin(self):
        return ([], "a")

    def step(self, standing, event):
        return ([], self.ways.get((standing, event), standing))

    def over(self, standing):
        return standing in self.last

    def values(self, standing):
        return ()


class Runs(unittest.TestCase):
    def test_the_beginning_alone(self):
        self.assertEqual(run(Counter(3), []), [["begin"]])

    def test_each_event_in_turn(self):
        self.assertEqual(run(Counter(5), [ONE, QUIET, TWO, TWO]), [["begin"], ["1"], [], ["3"], ["0"]])

    def test_behind_the_end(self):
        self.assertEqual(run(Counter(5, 2), [TWO, ONE, QUIET, ONE]), [["begin"], ["2"], [], [], []])

    def test_the_lists_are_the_askers_own(self):
        machine = Counter(4)
        events = [ONE, ONE]
        first = run(machine, events)
        self.assertEqual(first, [["begin"], ["1"], ["2"]])
        second = run(machine, events)
        first[0].append("spoiled")
        first.append([])
        self.assertEqual(second, [["begin"], ["1"], ["2"]])
        self.assertEqual(run(machine, events), [["begin"], ["1"], ["2"]])
        self.assertEqual(events, [ONE, ONE])
        for said in second:
            self.assertIs(type(said), list)


class Events(unittest.TestCase):
    def told(self, script, answer):
        got = events_of(script)
        self.assertEqual(got, answer)
        self.assertIs(type(got), list)
        for event in got:
            self.assertIs(type(event), tuple)

    def patterns(self, patterns, keys, words):
        """The events of a wait with these patterns."""
        body = [("wait", 1, [(pattern, []) for pattern in patterns])]
        answer = [QUIET] + [("key", key) for key in keys] + [("word", word) for word in words]
        with self.subTest(patterns=patterns):
            self.told(([], [("main", body)]), answer)

    def test_no_pattern_at_all(self):
        self.told(([], [("main", [])]), [QUIET, ("key", 0), ("word", "a")])
        self.told(([], []), [QUIET, ("key", 0), ("word", "a")])
        self.patterns([], [0], ["a"])
        self.patterns([("other",), ("none",)], [0], ["a"])

    def test_keys_rising_and_the_least_other_one(self):
        self.patterns([("key", 0)], [0, 1], ["a"])
        self.patterns([("key", 7), ("key", 3)], [3, 7, 0], ["a"])
        self.patterns([("key", 2), ("key", 0), ("key", 1)], [0, 1, 2, 3], ["a"])
        self.patterns([("key", 9)], [9, 0], ["a"])

    def test_nine_keys(self):
        for missed in range(10):
            keys = [key for key in range(10) if key != missed]
            self.patterns([("key", key) for key in keys], keys + [missed], ["a"])

    def test_all_ten_keys(self):
        self.patterns([("key", key) for key in reversed(range(10))], list(range(10)), ["a"])

    def test_words_sorted_and_the_first_other_one(self):
        self.patterns([("word", "yes"), ("word", "no")], [0], ["no", "yes", "a"])
        self.patterns([("word", "a")], [0], ["a", "b"])
        self.patterns([("word", "b"), ("word", "a"), ("word", "aa")], [0], ["a", "aa", "b", "c"])
        self.patterns([("word", "abcdefgh"), ("word", "zz"), ("word", "c")], [0], ["abcdefgh", "c", "zz", "a"])

    def test_all_words_of_one_letter(self):
        letters = list(string.ascii_lowercase)
        self.patterns([("word", letter) for letter in letters], [0], letters + ["aa"])
        for missed in letters:
            others = [letter for letter in letters if letter != missed]
            self.patterns([("word", letter) for letter in others], [0], others + [missed])
        more = [("word", letter) for letter in letters] + [("word", "aa"), ("word", "ab"), ("word", "ad")]
        self.patterns(more, [0], sorted(letters + ["aa", "ab", "ad"]) + ["ac"])

    def test_words_of_two_letters(self):
        letters = string.ascii_lowercase
        pairs = ["".join(pair) for pair in itertools.product(letters, repeat=2)]
        words = list(letters) + [pair for pair in pairs if pair < "b"]
        self.patterns([("word", word) for word in words], [0], sorted(words) + ["ba"])
        words = list(letters) + [pair for pair in pairs if pair < "zz"]
        self.patterns([("word", word) for word in words], [0], sorted(words) + ["zz"])
        words = list(letters) + pairs
        self.patterns([("word", word) for word in words], [0], sorted(words) + ["aaa"])
        self.patterns([("word", word) for word in words + ["aaa"]], [0], sorted(words + ["aaa"]) + ["aab"])

    def test_each_once(self):
        self.patterns([("key", 4), ("word", "yes"), ("key", 4), ("word", "yes")], [4, 0], ["yes", "a"])
        wait = ("wait", 0, [(("key", 4), []), (("word", "b"), [])])
        self.told(([], [("main", [wait, wait]), ("sub", [wait])]),
                  [QUIET, ("key", 4), ("key", 0), ("word", "b"), ("word", "a")])

    def test_wherever_they_stand(self):
        def wait(n, body=()):
            return ("wait", 0, [(("key", n), list(body)), (("word", "abcdefgh"[n]), [])])

        condition = ("same", ("number", 0), ("number", 1))
        main = [("stop",), ("test", condition, [wait(0)], [wait(2)]), ("loop", [wait(4, [wait(6)])]), wait(5)]
        script = ([], [("main", main), ("never", [("back",), wait(3)]), ("nor", [wait(7)])])
        self.told(script, [QUIET] + [("key", key) for key in (0, 2, 3, 4, 5, 6, 7, 1)]
                  + [("word", word) for word in "acdefghb"])

    def test_words_that_only_look_like_patterns(self):
        body = [("say", "a"), ("hand", 5, "b"), ("put", "c", ("number", 3)), ("call", "d"), ("wait", 6, [])]
        self.told(([("c", 2)], [("main", body), ("d", [])]), [QUIET, ("key", 0), ("word", "a")])

    def test_nothing_kept(self):
        script = ([], [("main", [("wait", 1, [(("key", 5), []), (("word", "b"), [])])])])
        before = copy.deepcopy(script)
        got = events_of(script)
        got.append("spoiled")
        got[0] = None
        self.assertEqual(script, before)
        self.told(script, [QUIET, ("key", 5), ("key", 0), ("word", "b"), ("word", "a")])

    def test_any_other_event_is_as_the_last_of_its_kind(self):
        branches = [(("key", 0), [("say", "a")]), (("word", "a"), [("say", "b")]), (("other",), [("say", "c")])]
        script = ([], [("main", [("loop", [("wait", 2, branches)])])])
        machine = Teller(script)
        start = machine.begin()[1]
        events = events_of(script)
        self.assertEqual(events, [QUIET, ("key", 0), ("key", 1), ("word", "a"), ("word", "b")])
        for key in range(2, 10):
            self.assertEqual(machine.step(start, ("key", key)), machine.step(start, ("key", 1)))
        for word in ("c", "other", "none", "quiet", "abcdefgh"):
            self.assertEqual(machine.step(start, ("word", word)), machine.step(start, ("word", "b")))


class Standings(unittest.TestCase):
    def test_in_the_order_in_which_they_are_found(self):
        ways = {("a", TWO): "d", ("a", ONE): "b", ("d", ONE): "a", ("b", ONE): "e", ("b", TWO): "d", ("d", TWO): "c",
                ("e", ONE): "f"}
        machine = Drawn(ways, ["f", "c"])
        self.assertEqual(standings(machine, [ONE, TWO]),
                         [("a", False), ("b", False), ("d", False), ("e", False), ("c", True), ("f", True)])
        self.assertEqual(standings(machine, [TWO, ONE]),
                         [("a", False), ("d", False), ("b", False), ("c", True), ("e", False), ("f", True)])

    def test_by_the_events_alone(self):
        machine = Drawn({("a", ONE): "b", ("b", TWO): "c"})
        self.assertEqual(standings(machine, []), [("a", False)])
        self.assertEqual(standings(machine, [QUIET]), [("a", False)])
        self.assertEqual(standings(machine, [ONE]), [("a", False), ("b", False)])
        self.assertEqual(standings(machine, [TWO, YES]), [("a", False)])

    def test_a_beginning_that_is_over(self):
        self.assertEqual(standings(Drawn({}, ["a"]), [ONE]), [("a", True)])

    def test_two_thousand_are_told(self):
        for rooms in (1999, 2000):
            got = standings(Counter(rooms, 7), [QUIET, ONE, ONE])
            # From what is over no step leads on.
            self.assertEqual(got, [(n, n == 7) for n in range(8)])
            got = standings(Counter(rooms), [QUIET, ONE])
            self.assertEqual(got, [(n, False) for n in range(rooms)])

    def test_more_are_refused(self):
        for rooms in (2001, 2002, 5000, 10 ** 60):
            with self.assertRaises(TooMany) as caught:
                standings(Counter(rooms), [QUIET, ONE])
            self.assertIs(type(caught.exception), TooMany)
            self.assertIsInstance(caught.exception, MillError)
            for other in (NoScript, NoForm, NoneYet):
                self.assertNotIsInstance(caught.exception, other)

    def test_more_are_refused_also_where_they_are_found_at_once(self):
        many = {("a", ("word", str(n))): str(n) for n in range(2000)}
        events = [("word", str(n)) for n in range(2000)]
        with self.assertRaises(TooMany):
            standings(Drawn(many), events)
        self.assertEqual(len(standings(Drawn(many), events[1:])), 2000)

    def count_of(self, script):
        return standings(Teller(script), events_of(script))

    def script_of(self, sizes, limits):
        """A script that counts its boxes up at each key 1, resting at waits one behind the other."""
        boxes = [(name, size) for name, size in zip(("a", "b", "c"), sizes)]
        body = []
        for limit in limits:
            body.append(("wait", limit, [(("key", 1), self.counted(boxes)), (("key", 2), [])]))
        return (boxes, [("main", [("loop", body)])])

    def counted(self, boxes):
        if not boxes:
            return []
        name = boxes[0][0]
        more = ("put", name, ("plus", ("box", name), ("number", 1)))
        return [more, ("test", ("same", ("box", name), ("number", 0)), self.counted(boxes[1:]), [])]

    def test_a_script_with_two_thousand(self):
        got = self.count_of(self.script_of((5, 5, 5), (8, 8)))
        self.assertEqual(len(got), 2000)
        self.assertEqual(len(set(got)), 2000)
        self.assertTrue(all(over is False for standing, over in got))

    def test_a_script_with_more(self):
        for limits in ((8, 9), (9, 9)):
            with self.assertRaises(TooMany):
                self.count_of(self.script_of((5, 5, 5), limits))
        ended = self.script_of((5, 5, 5), (8, 8))
        ended[1][0][1][0][1][0][2].append((("key", 3), [("stop",)]))
        with self.assertRaises(TooMany):
            self.count_of(ended)

    def test_refusing_changes_nothing(self):
        machine = Counter(2001)
        events = [QUIET, ONE]
        with self.assertRaises(TooMany):
            standings(machine, events)
        self.assertEqual(events, [QUIET, ONE])
        self.assertEqual(standings(machine, [QUIET]), [(0, False)])

    def test_new_each_time(self):
        machine = Drawn({("a", ONE): "b"})
        events = [ONE]
        first = standings(machine, events)
        first.append("spoiled")
        self.assertEqual(standings(machine, events), [("a", False), ("b", False)])
        self.assertEqual(events, [ONE])
        self.assertIs(type(first), list)
        self.assertIs(type(first[0]), tuple)


class AMachine(unittest.TestCase):
    def test_it_has_its_methods(self):
        for name in ("begin", "step", "over", "values"):
            self.assertTrue(callable(getattr(Machine, name)))


if __name__ == "__main__":
    unittest.main()
