"""Points 2, 8 and 9: written scripts."""

import copy
import random
import unittest

from callmill.exprs import holds, worth
from callmill.writer import shown

ONE = ("number", 1)
A = ("box", "a")
B = ("box", "b")
A_IS_1 = ("same", A, ONE)
A_UNDER_B = ("under", A, B)


class Case(unittest.TestCase):
    maxDiff = None

    def told(self, script, rows):
        with self.subTest(script=script):
            before = copy.deepcopy(script)
            got = shown(script)
            self.assertIs(type(got), str)
            self.assertEqual(got, "\n".join(rows))
            self.assertEqual(script, before)

    def body(self, body, rows):
        """The rows of a body, as told one block in."""
        self.told(([], [("main", body)]), ["talk main"] + ["  " + row for row in rows] + ["end"])

    def expression(self, expression, text):
        self.body([("put", "x", expression)], ["put x " + text])

    def condition(self, condition, text):
        self.body([("test", condition, [], [])], ["if " + text, "end"])


class Wholes(Case):
    def test_nothing_at_all(self):
        self.told(([], []), [])
        self.assertEqual(shown(([], [])), "")

    def test_boxes(self):
        self.told(([("a", 2)], []), ["box a 2"])
        boxes = [("lastname", 5), ("b", 2), ("count", 3)]
        self.told((boxes, []), ["box lastname 5", "box b 2", "box count 3"])
        self.told(([("d", 4), ("d", 4)], []), ["box d 4", "box d 4"])

    def test_talks(self):
        self.told(([], [("main", [])]), ["talk main", "end"])
        talks = [("z", [("say", "yes")]), ("a", []), ("longname", [("stop",)])]
        self.told(([], talks), ["talk z", "  say yes", "end", "talk a", "end", "talk longname", "  stop", "end"])

    def test_boxes_stand_ahead_of_talks(self):
        script = ([("b", 3), ("a", 2)], [("main", [("call", "sub")]), ("sub", [("back",)])])
        rows = ["box b 3", "box a 2", "talk main", "  call sub", "end", "talk sub", "  back", "end"]
        self.told(script, rows)

    def test_names_that_are_words_of_rows(self):
        script = ([("box", 2), ("end", 3)], [("talk", [("put", "box", ("box", "box"))]), ("else", [])])
        self.told(script, ["box box 2", "box end 3", "talk talk", "  put box box", "end", "talk else", "end"])

    def test_no_line_feed_at_the_end_and_no_blank_behind_a_row(self):
        bodies = ([], [("say", "a")], [("loop", [])], [("test", A_IS_1, [], [("stop",)])], [("wait", 0, [])])
        for body in bodies:
            with self.subTest(body=body):
                text = shown(([("a", 2)], [("main", body)]))
                self.assertTrue(text.endswith("\nend"))
                for row in text.split("\n"):
                    self.assertEqual(row, row.rstrip())
                    self.assertNotEqual(row, "")
        self.assertEqual(shown(([("a", 2)], [])), "box a 2")


class Statements(Case):
    def test_say(self):
        self.body([("say", "a")], ["say a"])
        self.body([("say", "abcdefgh")], ["say abcdefgh"])
        self.body([("say", "end")], ["say end"])

    def test_hand(self):
        for line in range(10):
            self.body([("hand", line, "yes")], ["hand " + "0123456789"[line] + " yes"])

    def test_put(self):
        self.body([("put", "a", ONE)], ["put a 1"])
        self.body([("put", "a", ("plus", A, ONE))], ["put a ( a + 1 )"])
        self.body([("put", "put", ("box", "put"))], ["put put put"])

    def test_statements_of_one_word(self):
        for word in ("again", "leave", "back", "stop"):
            self.body([(word,)], [word])

    def test_call(self):
        self.body([("call", "sub")], ["call sub"])
        self.body([("call", "call")], ["call call"])

    def test_one_behind_the_other(self):
        body = [("say", "b"), ("say", "a"), ("hand", 3, "c"), ("call", "sub"), ("say", "a"), ("stop",), ("back",)]
        self.body(body, ["say b", "say a", "hand 3 c", "call sub", "say a", "stop", "back"])

    def test_if_with_one_body(self):
        self.body([("test", A_IS_1, [("say", "yes")], [])], ["if a = 1", "  say yes", "end"])
        body = [("test", A_IS_1, [("say", "yes"), ("stop",)], []), ("back",)]
        self.body(body, ["if a = 1", "  say yes", "  stop", "end", "back"])

    def test_if_with_two_bodies(self):
        body = [("test", A_IS_1, [("say", "yes")], [("say", "no"), ("stop",)])]
        self.body(body, ["if a = 1", "  say yes", "else", "  say no", "  stop", "end"])

    def test_if_without_a_first_body(self):
        self.body([("test", A_IS_1, [], [("say", "no")])], ["if a = 1", "else", "  say no", "end"])

    def test_if_without_bodies(self):
        self.body([("test", A_IS_1, [], [])], ["if a = 1", "end"])

    def test_an_else_for_a_second_body_with_an_empty_block_in_it(self):
        self.body([("test", A_IS_1, [], [("loop", [])])], ["if a = 1", "else", "  loop", "  end", "end"])

    def test_wait_without_branches(self):
        for limit in range(10):
            self.body([("wait", limit, [])], ["wait " + "0123456789"[limit], "end"])

    def test_wait_with_branches(self):
        branches = [
            (("word", "yes"), [("say", "a")]),
            (("key", 0), [("say", "b"), ("stop",)]),
            (("other",), []),
            (("key", 9), [("say", "c")]),
            (("none",), [("back",)]),
        ]
        rows = [
            "wait 3", "  on word yes", "    say a", "  on key 0", "    say b", "    stop",
            "  on other", "  on key 9", "    say c", "  on none", "    back", "end",
        ]
        self.body([("wait", 3, branches)], rows)

    def test_wait_with_one_branch_without_anything_in_it(self):
        for pattern, text in ((("key", 5), "key 5"), (("word", "none"), "word none"), (("other",), "other"),
                              (("none",), "none")):
            self.body([("wait", 1, [(pattern, [])])], ["wait 1", "  on " + text, "end"])

    def test_loop(self):
        self.body([("loop", [])], ["loop", "end"])
        self.body([("loop", [("say", "a"), ("again",)])], ["loop", "  say a", "  again", "end"])
        self.body([("loop", [("leave",)]), ("say", "b")], ["loop", "  leave", "end", "say b"])


class Blocks(Case):
    def test_each_block_within_each(self):
        def loop(body):
            return ("loop", body)

        def first(body):
            return ("test", A_IS_1, body, [])

        def second(body):
            return ("test", A_IS_1, [], body)

        def branch(body):
            return ("wait", 2, [(("key", 1), body)])

        rows_of = {
            loop: (["loop"], 1), first: (["if a = 1"], 1), second: (["if a = 1", "else"], 1),
            branch: (["wait 2", "  on key 1"], 2),
        }
        for outer, (outer_rows, outer_depth) in rows_of.items():
            for inner, (inner_rows, inner_depth) in rows_of.items():
                body = [outer([("say", "a"), inner([("say", "b")]), ("say", "c")]), ("say", "d")]
                ahead = "  " * outer_depth
                rows = outer_rows + [ahead + "say a"] + [ahead + row for row in inner_rows]
                rows += [ahead + "  " * inner_depth + "say b", ahead + "end", ahead + "say c", "end", "say d"]
                self.body(body, rows)

    def test_an_if_within_both_bodies_of_an_if(self):
        inner = ("test", A_UNDER_B, [("say", "a")], [("say", "b")])
        inner_rows = ["  if a < b", "    say a", "  else", "    say b", "  end"]
        self.body([("test", A_IS_1, [inner], [inner])], ["if a = 1"] + inner_rows + ["else"] + inner_rows + ["end"])

    def test_waits_within_branches(self):
        inner = ("wait", 0, [(("other",), [("say", "a")])])
        branches = [(("key", 1), [inner]), (("none",), [("loop", [inner])])]
        rows = [
            "wait 9", "  on key 1", "    wait 0", "      on other", "        say a", "    end",
            "  on none", "    loop", "      wait 0", "        on other", "          say a", "      end", "    end", "end",
        ]
        self.body([("wait", 9, branches)], rows)

    def test_fourteen_loops_within_one_another(self):
        body = [("say", "deep")]
        for depth in range(14):
            body = [("loop", body)]
        rows = ["  " * depth + "loop" for depth in range(14)]
        rows.append("  " * 14 + "say deep")
        rows += ["  " * depth + "end" for depth in reversed(range(14))]
        self.body(body, rows)

    def test_a_script_of_everything(self):
        ask = ("wait", 4, [
            (("key", 1), [("put", "a", ("plus", A, ONE)), ("again",)]),
            (("word", "help"), [("call", "help")]),
            (("other",), [("test", A_UNDER_B, [("leave",)], [("hand", 2, "busy"), ("stop",)])]),
            (("none",), [("say", "bye")]),
        ])
        script = ([("a", 3), ("b", 5)], [("main", [("say", "hello"), ("loop", [ask])]), ("help", [("back",)])])
        self.told(script, [
            "box a 3",
            "box b 5",
            "talk main",
            "  say hello",
            "  loop",
            "    wait 4",
            "      on key 1",
            "        put a ( a + 1 )",
            "        again",
            "      on word help",
            "        call help",
            "      on other",
            "        if a < b",
            "          leave",
            "        else",
            "          hand 2 busy",
            "          stop",
            "        end",
            "      on none",
            "        say bye",
            "    end",
            "  end",
            "end",
            "talk help",
            "  back",
            "end",
        ])


class Expressions(Case):
    def test_figures(self):
        for n in range(10):
            self.expression(("number", n), "0123456789"[n])

    def test_names(self):
        for name in ("a", "abcdefgh", "box", "number", "plus", "less"):
            self.expression(("box", name), name)

    def test_plus_and_less(self):
        self.expression(("plus", A, ONE), "( a + 1 )")
        self.expression(("less", ONE, A), "( 1 - a )")
        self.expression(("plus", ("box", "plus"), ("box", "box")), "( plus + box )")

    def test_within_one_another(self):
        inner = ("less", A, B)
        self.expression(("plus", inner, ONE), "( ( a - b ) + 1 )")
        self.expression(("plus", ONE, inner), "( 1 + ( a - b ) )")
        self.expression(("less", ("plus", A, B), inner), "( ( a + b ) - ( a - b ) )")

    def test_six_within_one_another(self):
        left = right = ("number", 0)
        left_text = right_text = "0"
        for n in range(1, 7):
            kind, sign = (("plus", "+"), ("less", "-"))[n % 2]
            left = (kind, left, ("number", n))
            left_text = "( " + left_text + " " + sign + " " + str(n) + " )"
            right = (kind, ("number", n), right)
            right_text = "( " + str(n) + " " + sign + " " + right_text + " )"
        self.expression(left, left_text)
        self.expression(right, right_text)


class Conditions(Case):
    def test_same_and_under(self):
        self.condition(("same", A, ("number", 3)), "a = 3")
        self.condition(("under", ("number", 3), A), "3 < a")
        self.condition(("under", ("plus", A, ONE), ("less", B, A)), "( a + 1 ) < ( b - a )")

    def test_not(self):
        self.condition(("not", A_IS_1), "not a = 1")
        self.condition(("not", ("not", A_UNDER_B)), "not not a < b")
        self.condition(("not", ("both", A_IS_1, A_UNDER_B)), "not ( a = 1 and a < b )")

    def test_both(self):
        self.condition(("both", A_IS_1, A_UNDER_B), "( a = 1 and a < b )")
        self.condition(("both", A_UNDER_B, A_IS_1), "( a < b and a = 1 )")
        self.condition(("both", ("not", A_IS_1), A_UNDER_B), "( not a = 1 and a < b )")
        self.condition(("both", A_IS_1, ("not", A_UNDER_B)), "( a = 1 and not a < b )")
        inner = ("both", A_IS_1, A_UNDER_B)
        self.condition(("both", inner, A_IS_1), "( ( a = 1 and a < b ) and a = 1 )")
        self.condition(("both", A_IS_1, inner), "( a = 1 and ( a = 1 and a < b ) )")

    def test_six_within_one_another(self):
        condition, text = A_IS_1, "a = 1"
        for depth in range(3):
            condition = ("not", ("both", condition, A_UNDER_B))
            text = "not ( " + text + " and a < b )"
        self.condition(condition, text)


class Meaning(Case):
    """What is written means to Python, with its own signs, what exprs reckons."""

    boxes = [("a", 5), ("box", 5), ("plus", 5)]

    def an_expression(self, chance, depth):
        kind = chance.choice(("number", "box", "plus", "less") if depth > 0 else ("number", "box"))
        if kind == "number":
            return (kind, chance.randrange(10))
        if kind == "box":
            return (kind, chance.choice(self.boxes)[0])
        return (kind, self.an_expression(chance, depth - 1), self.an_expression(chance, depth - 1))

    def a_condition(self, chance, depth):
        kind = chance.choice(("same", "under", "not", "both") if depth > 0 else ("same", "under"))
        if kind == "not":
            return (kind, self.a_condition(chance, depth - 1))
        if kind == "both":
            return (kind, self.a_condition(chance, depth - 1), self.a_condition(chance, depth - 1))
        return (kind, self.an_expression(chance, 2), self.an_expression(chance, 2))

    def by_python(self, row, values):
        names = {name: value for (name, size), value in zip(self.boxes, values)}
        return eval(row.replace(" = ", " == "), {}, names)

    def test_expressions(self):
        chance = random.Random(1)
        for round_number in range(300):
            expression = self.an_expression(chance, 6)
            values = tuple([chance.randrange(5) for name in self.boxes])
            text = shown((self.boxes, [("main", [("put", "a", expression)])]))
            row = text.split("\n")[4]
            self.assertTrue(row.startswith("  put a "))
            self.assertEqual(worth(expression, self.boxes, values), self.by_python(row[8:], values), row)

    def test_conditions(self):
        chance = random.Random(2)
        for round_number in range(300):
            condition = self.a_condition(chance, 5)
            values = tuple([chance.randrange(5) for name in self.boxes])
            text = shown((self.boxes, [("main", [("test", condition, [], [])])]))
            row = text.split("\n")[4]
            self.assertTrue(row.startswith("  if "))
            self.assertIs(holds(condition, self.boxes, values), self.by_python(row[5:], values), row)


class NothingKept(Case):
    def test_the_script_stays_as_it_was(self):
        inner = [("say", "a")]
        branches = [(("key", 1), inner), (("none",), [])]
        body = [("wait", 2, branches), ("test", A_IS_1, inner, []), ("loop", inner)]
        boxes, talks = [("a", 2)], [("main", body)]
        script = (boxes, talks)
        before = copy.deepcopy(script)
        first = shown(script)
        self.assertEqual(script, before)
        self.assertEqual(shown(script), first)
        self.assertEqual(script, before)

    def test_a_script_changed_is_shown_as_it_is_then(self):
        inner, branches, body, boxes, talks = [], [], [], [], []
        script = (boxes, talks)
        self.assertEqual(shown(script), "")
        boxes.append(("a", 2))
        self.assertEqual(shown(script), "box a 2")
        talks.append(("main", body))
        self.assertEqual(shown(script), "box a 2\ntalk main\nend")
        body.append(("wait", 1, branches))
        branches.append((("other",), inner))
        self.assertEqual(shown(script), "box a 2\ntalk main\n  wait 1\n    on other\n  end\nend")
        inner.append(("stop",))
        self.assertEqual(shown(script), "box a 2\ntalk main\n  wait 1\n    on other\n      stop\n  end\nend")
        boxes.clear()
        talks.clear()
        self.assertEqual(shown(script), "")

    def test_one_body_at_several_places(self):
        shared = [("say", "a")]
        script = ([], [("main", [("test", A_IS_1, shared, shared), ("loop", shared)]), ("sub", shared)])
        self.told(script, [
            "talk main", "  if a = 1", "    say a", "  else", "    say a", "  end", "  loop", "    say a", "  end",
            "end", "talk sub", "  say a", "end",
        ])


if __name__ == "__main__":
    unittest.main()
