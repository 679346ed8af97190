"""Points 2, 8, 11 and 12: faults, sound scripts, dry ends."""

import copy
import re
import unittest

from callmill.looker import dry_ends, faults, sound
from callmill.reader import read_script
from callmill.writer import shown
from chance_scripts import Maker

A, Z, ONE = ("box", "a"), ("box", "z"), ("number", 1)
A_IS_1 = ("same", A, ONE)
WAIT = ("wait", 0, [])
STOP = ("stop",)


def a_test(yes, no):
    return ("test", A_IS_1, yes, no)


class Case(unittest.TestCase):
    def told(self, script, answer):
        with self.subTest(text=shown(script)):
            got = faults(script)
            self.assertEqual(got, answer)
            self.assertIs(type(got), list)
            for fault in got:
                self.assertIs(type(fault), tuple)
            self.assertIs(sound(script), answer == [])

    def body(self, body, answer, boxes=(("a", 2),)):
        """The faults of a body in the talk main, beside an empty talk sub."""
        script = (list(boxes), [("main", body), ("sub", [])])
        self.told(script, [("main", word, what) for word, what in answer])


class Heads(Case):
    def test_sound_ones(self):
        self.told(([], [("main", [])]), [])
        self.told(([("a", 2), ("b", 2)], [("main", []), ("sub", [])]), [])

    def test_a_box_and_a_talk_of_one_name(self):
        self.told(([("main", 2)], [("main", [])]), [])

    def test_boxes_twice(self):
        self.told(([("a", 2), ("a", 3)], [("main", [])]), [("", "twice", "a")])
        self.told(([("a", 2), ("b", 2), ("a", 2)], [("main", [])]), [("", "twice", "a")])
        self.told(([("a", 2), ("a", 2), ("a", 2)], [("main", [])]), [("", "twice", "a")] * 2)
        self.told(([("b", 2), ("a", 2), ("a", 2), ("b", 2)], [("main", [])]), [("", "twice", "a"), ("", "twice", "b")])

    def test_talks_twice(self):
        self.told(([], [("main", []), ("main", [])]), [("main", "twice", "main")])
        self.told(([], [("main", []), ("b", []), ("a", []), ("b", []), ("a", []), ("b", [])]),
                  [("b", "twice", "b"), ("a", "twice", "a"), ("b", "twice", "b")])

    def test_no_talk(self):
        self.told(([], []), [("", "none", "")])
        self.told(([("a", 2), ("a", 2)], []), [("", "twice", "a"), ("", "none", "")])

    def test_boxes_ahead_of_talks(self):
        self.told(([("a", 2), ("a", 2)], [("main", []), ("main", [])]), [("", "twice", "a"), ("main", "twice", "main")])


class Statements(Case):
    def test_sound_ones(self):
        branches = [(("key", 1), []), (("key", 2), []), (("word", "key"), []), (("other",), []), (("none",), [])]
        self.body([("say", "z"), ("hand", 1, "z"), ("put", "a", A), a_test([], []), ("wait", 1, branches),
                   ("loop", [WAIT, ("again",), ("leave",)]), ("call", "sub"), ("back",), STOP], [])

    def test_no_box(self):
        self.body([("put", "z", ONE)], [("box", "z")])
        self.body([("put", "a", Z)], [("box", "z")])
        self.body([("test", ("under", ONE, Z), [], [])], [("box", "z")])
        self.body([("put", "a", A)], [("box", "a"), ("box", "a")], [])

    def test_no_box_in_the_order_written(self):
        names = [("box", name) for name in "vwxyz"]
        v, w, x, y, z = names
        self.body([("put", "y", ("plus", ("less", z, A), ("plus", x, z)))], [y, z, x, z])
        condition = ("both", ("not", ("same", w, A)), ("under", ("less", v, ONE), ("plus", z, w)))
        self.body([("test", condition, [("put", "y", x)], [("put", "x", y)])], [w, v, z, w, y, x, x, y])

    def test_names_that_are_no_box_elsewhere(self):
        self.body([("say", "z"), ("hand", 1, "z"), ("wait", 1, [(("word", "z"), [])]), ("put", "a", ONE)], [])
        self.told(([("a", 2)], [("z", [("put", "z", ONE)])]), [("z", "box", "z")])

    def test_call_of_none(self):
        self.body([("call", "z")], [("talk", "z")])
        self.body([("call", "a")], [("talk", "a")])
        self.body([("call", "sub"), ("call", "y"), ("loop", [WAIT, ("call", "z")])], [("talk", "y"), ("talk", "z")])

    def test_again_and_leave_in_no_loop(self):
        self.body([("again",)], [("again", "")])
        self.body([("leave",)], [("leave", "")])
        self.body([a_test([("leave",)], [("again",)])], [("leave", ""), ("again", "")])
        self.body([("wait", 0, [(("key", 1), [("again",)])])], [("again", "")])
        self.body([("loop", [WAIT]), ("leave",)], [("leave", "")])
        self.body([("leave",), ("loop", [WAIT])], [("leave", "")])

    def test_again_and_leave_in_a_loop(self):
        inner = ("wait", 0, [(("key", 1), [("again",), a_test([("leave",)], [("again",)])])])
        self.body([("loop", [inner, ("leave",)])], [])
        self.body([("loop", [("loop", [inner]), inner, ("again",)])], [])

    def test_the_loop_of_another_talk_is_none(self):
        script = ([], [("main", [("loop", [WAIT, ("call", "sub")])]), ("sub", [("again",), ("leave",)])])
        self.told(script, [("sub", "again", ""), ("sub", "leave", "")])

    def test_a_limit(self):
        none = (("none",), [])
        self.body([("wait", 0, [none])], [("limit", "")])
        self.body([("wait", 0, [(("key", 1), []), none])], [("limit", "")])
        self.body([("wait", 0, [(("other",), [])])], [])
        for limit in range(1, 10):
            self.body([("wait", limit, [none])], [])

    def test_branches_of_one_pattern(self):
        for pattern, text in ((("key", 1), "key 1"), (("word", "yes"), "word yes"), (("other",), "other"),
                              (("none",), "none"), (("key", 0), "key 0"), (("word", "none"), "word none")):
            branch = (pattern, [])
            self.body([("wait", 1, [branch])], [])
            self.body([("wait", 1, [branch, branch])], [("branch", text)])
            self.body([("wait", 1, [branch, (("key", 9), []), branch, branch])], [("branch", text)] * 2)
            self.body([("wait", 1, [branch]), ("wait", 1, [branch])], [])
            self.body([("wait", 1, [(("key", 9), [("wait", 1, [branch])]), branch])], [])

    def test_a_wait_in_its_order(self):
        wait = ("wait", 0, [
            (("key", 1), [("call", "v")]),
            (("none",), [("call", "w")]),
            (("key", 1), [("call", "x"), ("leave",)]),
            (("none",), [("again",)]),
        ])
        self.body([wait, ("call", "z")], [("limit", ""), ("talk", "v"), ("talk", "w"), ("branch", "key 1"), ("talk", "x"),
                                          ("leave", ""), ("branch", "none"), ("again", ""), ("talk", "z")])

    def test_what_is_never_come_to_is_looked_at_too(self):
        self.body([STOP, ("call", "z"), ("back",), ("leave",)], [("talk", "z"), ("leave", "")])

    def test_talk_by_talk(self):
        talks = [("main", [("call", "z"), ("leave",)]), ("b", []), ("main", [("put", "z", ONE)]), ("c", [("again",)])]
        self.told(([], talks), [("main", "twice", "main"), ("main", "talk", "z"), ("main", "leave", ""),
                                ("main", "box", "z"), ("c", "again", "")])


class Rounds(Case):
    def calls(self, called, answer):
        """Talks by names of one letter with what each one calls."""
        talks = [(text[0], [("call", name) for name in text[1:]]) for text in called.split()]
        self.told(([], talks), [(name, "round", "") for name in answer])

    def test_none(self):
        self.calls("a", "")
        self.calls("abc b c", "")
        self.calls("abcd bcd cd d", "")
        self.calls("a ba cab", "")

    def test_itself(self):
        self.calls("aa", "a")
        self.calls("ab bb", "b")
        self.calls("a bb c", "b")

    def test_through_others(self):
        self.calls("ab ba", "ab")
        self.calls("ab bc ca", "abc")
        self.calls("ab bc cb", "bc")
        self.calls("ab bc cd db ea", "bcd")
        self.calls("ab ba cd dc", "abcd")
        self.calls("abcdefgh b c d e f g ha", "ah")

    def test_wherever_the_call_stands(self):
        call = [("call", "main")]
        for body in ([STOP] + call, [a_test(call, [])], [a_test([], call)], [("loop", [WAIT] + call)],
                     [("wait", 0, [(("key", 1), call)])], [("wait", 1, [(("key", 1), []), (("none",), [a_test([], call)])])]):
            self.told(([("a", 2)], [("main", body)]), [("main", "round", "")])

    def test_a_call_is_of_the_first_talk_of_its_name(self):
        twice = ("b", "twice", "b")
        self.told(([], [("a", []), ("b", []), ("b", [("call", "b")])]), [twice])
        self.told(([], [("a", []), ("b", [("call", "b")]), ("b", [])]), [twice, ("b", "round", "")])
        self.told(([], [("b", [("call", "a")]), ("a", []), ("b", [("call", "a")]), ("a", [("call", "b")])]),
                  [twice, ("a", "twice", "a")])
        self.told(([], [("a", [("call", "b")]), ("b", [("call", "a")]), ("b", [("call", "a")])]),
                  [twice, ("a", "round", ""), ("b", "round", "")])

    def test_behind_all_statements_and_calls_of_none(self):
        talks = [("a", [("call", "a"), ("call", "z")]), ("b", [("leave",)])]
        self.told(([], talks), [("a", "talk", "z"), ("b", "leave", ""), ("a", "round", "")])


class DryLoops(Case):
    def dry(self, body, dry):
        self.body([("loop", body)], [("dry", "")] if dry else [])

    def test_one_loop(self):
        self.dry([], True)
        self.dry([("say", "a")], True)
        self.dry([("hand", 1, "a"), ("put", "a", ONE)], True)
        self.dry([("again",)], True)
        self.dry([WAIT], False)
        self.dry([("say", "a"), WAIT, ("again",)], False)
        for word in ("leave", "back", "stop"):
            self.dry([(word,)], False)
            self.dry([a_test([(word,)], [])], True)
            self.dry([a_test([(word,)], [("again",)])], True)
            self.dry([a_test([(word,)], [WAIT])], False)

    def test_calls(self):
        for body, dry in (([], True), ([("back",)], True), ([STOP], False), ([WAIT], False), ([WAIT, STOP], False),
                          ([a_test([WAIT], [("back",)])], True), ([a_test([STOP], [WAIT])], False)):
            script = ([("a", 2)], [("main", [("loop", [("call", "sub")])]), ("sub", body)])
            self.told(script, [("main", "dry", "")] if dry else [])

    def test_in_the_order_of_the_text(self):
        talks = [
            ("main", [("loop", [("loop", []), ("loop", [WAIT]), ("leave",)]), ("loop", [])]),
            ("sub", [("wait", 0, [(("key", 1), [("loop", [("say", "a")])])]), a_test([], [("loop", [("again",)])])]),
            ("other", [STOP, ("loop", [a_test([("loop", [])], [("again",)])])]),
        ]
        self.told(([("a", 2)], talks), [(name, "dry", "") for name in
                                       ("main", "main", "sub", "sub", "other", "other")])

    def test_the_outer_loop_alone_or_the_inner_one_alone(self):
        self.dry([("loop", [WAIT]), ("say", "a")], False)
        self.dry([("loop", [a_test([("leave",)], [WAIT])])], True)
        self.dry([("loop", [("again",)])], True)
        self.body([("loop", [WAIT, ("loop", [])])], [("dry", "")])

    def test_only_where_there_is_no_fault_so_far(self):
        loop = ("loop", [])
        self.body([loop, ("again",)], [("again", "")])
        self.body([loop, ("call", "z")], [("talk", "z")])
        self.body([loop, ("put", "z", ONE)], [("box", "z")])
        self.body([loop, ("call", "main")], [("round", "")])
        self.body([loop, ("wait", 0, [(("none",), [])])], [("limit", "")])
        self.body([loop, ("wait", 0, [(("other",), []), (("other",), [])])], [("branch", "other")])
        self.told(([("a", 2), ("a", 2)], [("main", [loop])]), [("", "twice", "a")])
        self.told(([], [("main", [loop]), ("main", [])]), [("main", "twice", "main")])
        self.body([loop], [("dry", "")])

    def test_talks_that_call_one_another_many_times(self):
        talks = [("t" + "abcdefgh"[n], [("call", "t" + "abcdefgh"[n + 1])] * 7) for n in range(7)] + [("th", [])]
        talks[0] = ("ta", [("loop", [("call", "tb")] * 7)])
        self.told(([], talks), [("ta", "dry", "")])


class Several(Case):
    def test_all_in_their_order(self):
        main = [("call", "sub"), ("put", "z", Z), ("leave",), ("loop", []),
                ("wait", 0, [(("none",), [("again",)]), (("none",), [("call", "none")])])]
        talks = [("main", main), ("sub", [("call", "main")]), ("sub", [("call", "sub"), ("again",)])]
        self.told(([("a", 2), ("b", 2), ("a", 3)], talks), [
            ("", "twice", "a"), ("sub", "twice", "sub"),
            ("main", "box", "z"), ("main", "box", "z"), ("main", "leave", ""), ("main", "limit", ""),
            ("main", "again", ""), ("main", "branch", "none"), ("main", "talk", "none"),
            ("sub", "again", ""),
            ("main", "round", ""), ("sub", "round", ""),
        ])


class Ends(unittest.TestCase):
    talks = [("main", []), ("empty", []), ("goes", [("say", "a"), ("back",)]), ("halts", [STOP]), ("waits", [WAIT]),
             ("maybe", [a_test([STOP], [a_test([("back",)], [WAIT])])]), ("deep", [("call", "maybe"), STOP]),
             ("through", [("call", "goes"), ("call", "empty")])]

    def told(self, body, answer):
        script = ([("a", 2)], self.talks)
        with self.subTest(body=body):
            got = dry_ends(script, body)
            self.assertEqual(got, answer.split())
            self.assertIs(type(got), list)

    def test_each_kind(self):
        self.told([], "on")
        self.told([("say", "a")], "on")
        self.told([("hand", 1, "a")], "on")
        self.told([("put", "a", ONE)], "on")
        self.told([WAIT], "")
        self.told([("wait", 1, [(("none",), [STOP]), (("key", 1), [])])], "")
        for word in ("again", "leave", "back", "stop"):
            self.told([(word,)], word)

    def test_one_behind_the_other(self):
        self.told([("say", "a"), ("say", "b")], "on")
        self.told([("say", "a"), STOP], "stop")
        self.told([STOP, ("say", "a")], "stop")
        self.told([STOP, ("leave",)], "stop")
        self.told([WAIT, STOP], "")
        self.told([("say", "a"), WAIT], "")
        self.told([a_test([STOP], []), WAIT], "stop")
        self.told([a_test([STOP], []), ("leave",)], "leave stop")
        self.told([a_test([STOP], [WAIT]), ("leave",)], "stop")
        self.told([a_test([], []), a_test([("leave",)], []), a_test([("again",)], [])], "on again leave")

    def test_tests_in_the_told_order(self):
        self.told([a_test([STOP], [("back",)])], "back stop")
        self.told([a_test([STOP], [a_test([("leave",)], [a_test([("again",)], [a_test([("back",)], [])])])])],
                  "on again leave back stop")
        self.told([a_test([], [WAIT])], "on")
        self.told([a_test([WAIT], [WAIT])], "")
        self.told([a_test([STOP], [STOP])], "stop")

    def test_loops(self):
        self.told([("loop", [])], "")
        self.told([("loop", [("again",)])], "")
        self.told([("loop", [("leave",)])], "on")
        self.told([("loop", [("back",)])], "back")
        self.told([("loop", [STOP])], "stop")
        self.told([("loop", [WAIT])], "")
        every = [a_test([STOP], [a_test([("back",)], [a_test([("leave",)], [a_test([("again",)], [])])])])]
        self.told([("loop", every)], "on back stop")
        self.told([("loop", every), ("again",)], "again back stop")
        self.told([("loop", [a_test([("again",)], [])]), STOP], "")

    def test_loops_within_loops(self):
        self.told([("loop", [("loop", [("leave",)])])], "")
        self.told([("loop", [("loop", [("leave",)]), ("leave",)])], "on")
        self.told([("loop", [("loop", [a_test([("leave",)], [STOP])]), a_test([("leave",)], [("back",)])])], "on back stop")
        self.told([("loop", [("loop", [("again",)]), ("leave",)])], "")

    def test_calls(self):
        self.told([("call", "empty")], "on")
        self.told([("call", "goes")], "on")
        self.told([("call", "halts")], "stop")
        self.told([("call", "waits")], "")
        self.told([("call", "maybe")], "on stop")
        self.told([("call", "deep")], "stop")
        self.told([("call", "through"), ("leave",)], "leave")
        self.told([("call", "maybe"), ("call", "maybe"), ("back",)], "back stop")
        self.told([("call", "waits"), STOP], "")

    def test_new_each_time(self):
        script = ([], [("main", [("loop", [("call", "sub")])]), ("sub", [])])
        before = copy.deepcopy(script)
        got = dry_ends(script, script[1][0][1])
        got.append("on")
        self.assertEqual(dry_ends(script, script[1][0][1]), [])
        dry_ends(script, [("call", "sub")]).clear()
        self.assertEqual(dry_ends(script, [("call", "sub")]), ["on"])
        self.assertEqual(script, before)


class ByTheText(unittest.TestCase):
    """The faults of scripts made by chance, looked for in the rows of their text, ahead of rounds and dry loops."""

    def name_words(self, words):
        return [word for word in words if re.fullmatch("[a-z]+", word) and word not in ("not", "and")]

    def by_rows(self, script):
        boxes = [name for name, size in script[0]]
        talks = [name for name, body in script[1]]
        rows = shown(script).split("\n")
        found = [("", "twice", name) for place, name in enumerate(boxes) if name in boxes[:place]]
        found += [(name, "twice", name) for place, name in enumerate(talks) if name in talks[:place]]
        found += [] if talks else [("", "none", "")]
        talk, loops, patterns = None, [], {}
        for place, row in enumerate(rows):
            depth = (len(row) - len(row.lstrip())) // 2
            words = row.split()
            kind = words[0] if words else ""
            loops = [loop for loop in loops if loop < depth]
            if kind == "talk":
                talk = words[1]
            if kind == "loop":
                loops.append(depth)
            if kind == "put" or kind == "if":
                found += [(talk, "box", name) for name in self.name_words(words[1:]) if name not in boxes]
            if kind == "call" and words[1] not in talks:
                found.append((talk, "talk", words[1]))
            if kind in ("again", "leave") and not loops:
                found.append((talk, kind, ""))
            if kind == "wait":
                patterns[depth + 1] = []
                rest = rows[place:]
                own = rest[:rest.index("  " * depth + "end")]
                if words[1] == "0" and "  " * (depth + 1) + "on none" in own:
                    found.append((talk, "limit", ""))
            if kind == "on":
                if words[1:] in patterns[depth]:
                    found.append((talk, "branch", " ".join(words[1:])))
                patterns[depth].append(words[1:])
        return found

    def test_made_by_chance(self):
        maker = Maker(5, True)
        kinds = {}
        for count in range(600):
            script = maker.script()
            expected = self.by_rows(script)
            got = faults(script)
            self.assertEqual([fault for fault in got if fault[1] not in ("round", "dry")], expected, shown(script))
            for fault in got:
                kinds[fault[1]] = kinds.get(fault[1], 0) + 1
        for kind in ("twice", "none", "box", "talk", "again", "leave", "limit", "branch", "round"):
            self.assertGreater(kinds.get(kind, 0), 5, kind)

    def test_what_is_read_has_the_same_faults(self):
        maker = Maker(6, True)
        for count in range(100):
            script = maker.script()
            self.assertEqual(faults(read_script(shown(script))), faults(script))


class NothingKept(Case):
    def test_the_script_stays_as_it_was(self):
        maker = Maker(7, True)
        for count in range(100):
            script = maker.script()
            before = copy.deepcopy(script)
            first = faults(script)
            faults(script).append("spoiled")
            sound(script)
            self.assertEqual(script, before)
            self.assertEqual(faults(script), first)

    def test_a_changed_script_is_looked_through_anew(self):
        body = []
        script = ([], [("main", body)])
        self.told(script, [])
        body.append(("again",))
        self.told(script, [("main", "again", "")])
        body.clear()
        self.told(script, [])


if __name__ == "__main__":
    unittest.main()
