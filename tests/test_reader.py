"""Points 2, 3, 4, 9 and 10: scripts read from text."""

import random
import unittest

from callmill.errors import MillError, NoForm, NoneYet, NoScript, TooMany
from callmill.reader import read_script
from callmill.writer import shown
from chance_scripts import Maker
from plain_reader import read_plainly

A, B, ONE = ("box", "a"), ("box", "b"), ("number", 1)
A_IS_1 = ("same", A, ONE)
A_UNDER_B = ("under", A, B)
EVERYTHING = ([("a", 3), ("b", 5), ("box", 2)], [
    ("main", [
        ("say", "hello"),
        ("hand", 0, "a"),
        ("put", "a", ("plus", ("less", A, B), ("number", 0))),
        ("test", ("not", ("both", A_IS_1, ("not", A_UNDER_B))), [("back",)], [("stop",)]),
        ("test", ("under", ("plus", A, ONE), ("less", B, A)), [], []),
        ("test", A_IS_1, [], [("loop", [])]),
        ("loop", [
            ("wait", 9, [
                (("key", 0), [("again",)]),
                (("key", 9), [("leave",)]),
                (("word", "word"), [("call", "sub")]),
                (("other",), [("wait", 0, [(("key", 1), [("loop", [("leave",)])])]), ("say", "b")]),
                (("none",), []),
            ]),
        ]),
        ("wait", 0, []),
    ]),
    ("sub", []),
    ("not", [("call", "and"), ("say", "not"), ("hand", 9, "and"), ("wait", 1, [(("word", "not"), [])])]),
    ("and", [("put", "box", ("box", "box"))]),
])


class Case(unittest.TestCase):
    def told(self, rows, script):
        text = "\n".join(rows)
        with self.subTest(text=text):
            self.assertEqual(read_script(text), script)

    def refused(self, text, row):
        with self.subTest(text=text):
            with self.assertRaises(NoScript) as caught:
                read_script(text)
            self.assertEqual(caught.exception.row, row)
            self.assertIs(type(caught.exception.row), int)

    def body(self, rows, body):
        self.told(["talk main"] + rows + ["end"], ([], [("main", body)]))

    def no_row(self, row, rows=("talk main",)):
        """The row is refused behind these ones, whatever comes behind it."""
        text = "\n".join(list(rows) + [row])
        self.refused(text, len(rows) + 1)
        self.refused(text + "\nend", len(rows) + 1)
        self.refused(text + "\nno row either\n", len(rows) + 1)


class WhatIsWritten(Case):
    def back(self, script):
        text = shown(script)
        with self.subTest(text=text):
            self.assertEqual(read_script(text), script)

    def test_everything(self):
        self.back(EVERYTHING)

    def test_boxes_and_talks_alone(self):
        self.back(([], []))
        self.back(([("a", 2)], []))
        self.back(([("a", 2), ("b", 3), ("c", 4), ("d", 5)], []))
        self.back(([], [("main", [])]))
        self.back(([], [("z", []), ("a", [("stop",)]), ("abcdefgh", [])]))

    def test_names_and_sizes_need_not_fit(self):
        self.back(([("a", 2), ("a", 5)], [("main", [("call", "none"), ("again",)]), ("main", [("put", "z", A)])]))
        twice = ("wait", 0, [(("none",), []), (("none",), []), (("key", 1), []), (("key", 1), [])])
        self.back(([], [("main", [twice, ("leave",), ("loop", [])])]))

    def test_every_figure(self):
        for n in range(10):
            body = [("hand", n, "a"), ("put", "a", ("number", n)), ("wait", n, [(("key", n), [])])]
            self.back(([], [("main", body)]))

    def test_words_of_rows_as_names(self):
        for name in ("box", "talk", "end", "say", "hand", "put", "if", "else", "wait", "on", "loop", "again", "leave",
                     "call", "back", "stop", "key", "word", "other", "none"):
            body = [("say", name), ("call", name), ("put", name, ("plus", ("box", name), ("box", name))),
                    ("test", ("same", ("box", name), ("box", name)), [("hand", 1, name)], []),
                    ("wait", 1, [(("word", name), [])])]
            self.back(([(name, 2)], [(name, body)]))

    def test_fourteen_blocks_within_one_another(self):
        for wrap in (lambda body: ("loop", body), lambda body: ("test", A_IS_1, body, []),
                     lambda body: ("test", A_IS_1, [("say", "b")], body),
                     lambda body: ("wait", 1, [(("key", 1), [("say", "b")]), (("other",), body)])):
            body = [("say", "deep")]
            for depth in range(14):
                body = [wrap(body), ("say", "a")]
            self.back(([], [("main", body)]))

    def test_six_within_one_another(self):
        left = right = ONE
        condition = A_IS_1
        for depth in range(6):
            kind = ("plus", "less")[depth % 2]
            left, right = (kind, left, A), (kind, A, right)
            condition = (("both", condition, A_UNDER_B), ("not", condition), ("both", A_IS_1, condition))[depth % 3]
            self.back(([], [("main", [("put", "a", left), ("put", "a", right), ("test", condition, [], [])])]))

    def test_made_by_chance(self):
        for with_faults in (False, True):
            maker = Maker(11, with_faults)
            for count in range(300):
                self.back(maker.script())


class WhatElseIsRead(Case):
    def test_the_text_without_signs(self):
        self.told([""], ([], []))

    def test_rows_of_no_words(self):
        for text in ("\n", " ", "   ", "\n\n\n", "  \n \n", "\n   "):
            self.told([text], ([], []))
        self.told(["", "box a 2", "", "   ", "talk main", "", " ", "say a", "", "end", "", "  "],
                  ([("a", 2)], [("main", [("say", "a")])]))
        self.told(["talk main", "wait 1", "", "on key 1", "  ", "end", "end", ""],
                  ([], [("main", [("wait", 1, [(("key", 1), [])])])]))

    def test_any_number_of_blanks_ahead(self):
        rows = shown(EVERYTHING).split("\n")
        self.told([row.lstrip() for row in rows], EVERYTHING)
        for seed in range(10):
            chance = random.Random(seed)
            self.told([" " * chance.randrange(12) + row.lstrip() for row in rows], EVERYTHING)
        self.told([" " * 200 + row for row in rows[:1]], ([("a", 3)], []))

    def test_an_else_without_a_statement_behind_it(self):
        self.body(["if a = 1", "else", "end"], [("test", A_IS_1, [], [])])
        self.body(["if a = 1", "say a", "else", "", "end", "say b"],
                  [("test", A_IS_1, [("say", "a")], []), ("say", "b")])

    def test_a_wait_without_branches(self):
        self.body(["wait 0", "end"], [("wait", 0, [])])

    def test_many_blocks_and_nots_within_one_another(self):
        # A text may hold these within its four thousand signs, deeper than Python's own calls go.
        depth = 390
        text = "talk main\n" + "loop\n" * depth + "end\n" * depth + "end"
        body = read_script(text)[1][0][1]
        for count in range(depth):
            self.assertEqual((len(body), body[0][0]), (1, "loop"))
            body = body[0][1]
        self.assertEqual(body, [])
        self.refused(text[:-4], 2 * depth + 2)
        row = "if " + "not " * 900 + "a = 1"
        condition = read_script("talk main\n" + row + "\nend\nend")[1][0][1][0][1]
        for count in range(900):
            self.assertEqual(condition[0], "not")
            condition = condition[1]
        self.assertEqual(condition, A_IS_1)
        self.no_row("if " + "not " * 900 + "a")

    def test_sixty_brackets_within_one_another(self):
        left = right = "1"
        for count in range(60):
            left, right = "( " + left + " + a )", "( a - " + right + " )"
        both = "a = 1"
        for count in range(60):
            both = "( " + both + " and a < b )"
        body = read_script("\n".join(["talk main", "put a " + left, "put b " + right, "if " + both, "end", "end"]))[1][0][1]
        one, other, condition = body[0][2], body[1][2], body[2][1]
        for count in range(60):
            self.assertEqual((one[0], one[2], other[0], other[1]), ("plus", A, "less", A))
            self.assertEqual((condition[0], condition[2]), ("both", A_UNDER_B))
            one, other, condition = one[1], other[2], condition[1]
        self.assertEqual((one, other, condition), (ONE, ONE, A_IS_1))
        for row in ("put a " + left[:-2], "put a " + right + " )", "if " + left + " = " + right[:-2], "if " + both[2:],
                    "if " + both[:-2], "put a " + "( " * 60, "if " + "( " * 59 + "(", "if " + "( " * 60 + "a = 1"):
            self.no_row(row)

    def test_long_texts(self):
        rows = ["talk main"] + ["say a"] * 600 + ["end"]
        self.told(rows, ([], [("main", [("say", "a")] * 600)]))
        self.refused("\n".join(rows[:-1]), 602)


class WordsRefused(Case):
    def test_expressions(self):
        for words in ("", "+", "( )", "( a )", "( a + )", "( + a )", "( a + b", "a + b )", "a + b", "( a + b + c )",
                      "( a b )", "( a + b ) c", "a b", "( a = b )", "a = b", "( a and b )", "not a", "( a * b )",
                      "( a +b )", "(a + b)", "( a + ( b ) )", "( ( a + b ) )", "( a + b ) )", ") a + b (", "+ a b", "-1",
                      "- 1", "( a < b )", "( a - b = c )", "a,", "a-b"):
            self.no_row("put a " + words)
        self.no_row("put a")

    def test_conditions(self):
        for words in ("", "a", "1", "a =", "= a", "a = = b", "a b =", "a = b c", "a = b = c", "a < b < c", "a == b",
                      "a > b", "a <= b", "( a = b )", "( a = b and )", "( and a = b )", "( a = b and c )", "( a and b )",
                      "( a = b and c = d", "a = b and c = d )", "a = b and c = d", "( a = b and c = d and e = f )",
                      "( a = b or c = d )", "not", "not a", "not not", "a = b not", "a not = b", "( not a = b )",
                      "( a + b )", "( a + b ) and c", "( a = b + c = d )", "( a = b ) = c", "( a = b and c = d ) = e",
                      "( ( a = b and c = d ) )", "( a + b = c )", "a = ( b = c )", "not ( a + b )", "a = not b",
                      "( a = b and c = d ) )", "a=b", "a = -1", "and", "( a = b and not c )"):
            self.no_row("if " + words)
        self.no_row("if")

    def test_blanks(self):
        rows = (("box a 2", ()), ("talk main", ()), ("say a", ("talk main",)), ("hand 1 a", ("talk main",)),
                ("put a ( a + 1 )", ("talk main",)), ("if a = 1", ("talk main",)), ("else", ("talk main", "if a = 1")),
                ("wait 1", ("talk main",)), ("on key 1", ("talk main", "wait 1")), ("on word a", ("talk main", "wait 1")),
                ("on other", ("talk main", "wait 1")), ("on none", ("talk main", "wait 1")), ("loop", ("talk main",)),
                ("again", ("talk main",)), ("leave", ("talk main",)), ("call a", ("talk main",)),
                ("back", ("talk main",)), ("stop", ("talk main",)), ("end", ("talk main",)))
        for row, ahead in rows:
            for wrong in (row + " ", row + "  ", row + "\t", "\t" + row, "  \t" + row, " \t " + row, row + " a", row + " 1"):
                self.no_row(wrong, ahead)
            if " " in row:
                for wrong in (row.replace(" ", "  ", 1), row.replace(" ", "\t", 1), row.replace(" ", " \t", 1),
                              row.replace(" ", "", 1), row.rpartition(" ")[0], row.rpartition(" ")[0] + " "):
                    self.no_row(wrong, ahead)
                last = row.rpartition(" ")
                self.no_row(last[0] + "  " + last[2], ahead)
        for wrong in ("\t", " \t", "\t ", "\t\t"):
            self.no_row(wrong)
            self.no_row(wrong, ())

    def test_each_sign_by_itself(self):
        for code in range(33, 127):
            sign = chr(code)
            self.no_row(sign + "say a")
            self.no_row("  " + sign + " say a")
            self.no_row("say a" + sign * 8)
            if sign not in "0123456789":
                self.no_row("hand " + sign + " a")
                self.no_row("wait " + sign)
                self.no_row("on key " + sign, ("talk main", "wait 1"))
                self.no_row("box a " + sign, ())
                if not "a" <= sign <= "z":
                    self.no_row("put a " + sign)
                    self.no_row("if a = " + sign)

    def test_words(self):
        for word in ("Yes", "yeS", "YES", "abcdefghi", "yes1", "1", "0", "ye-s", "y.", "(", "+", "_", "a_b", "~", "a,b"):
            self.no_row("say " + word)
            self.no_row("hand 1 " + word)
            self.no_row("call " + word)
            self.no_row("on word " + word, ("talk main", "wait 1"))
            self.no_row("talk " + word, ())
            self.no_row("box " + word + " 2", ())
            self.no_row("put " + word + " 1")
        for word in ("A", "aB", "abcdefghi", "a1", "1a", "_", "12", "a_"):
            self.no_row("put a " + word)
            self.no_row("if " + word + " = 1")
            self.no_row("if 1 < " + word)

    def test_numbers(self):
        for wrong in ("00", "01", "09", "10", "12", "99", "-1", "+1", "1.", "1_", "x", "a", "A", "(", "123456789"):
            self.no_row("hand " + wrong + " a")
            self.no_row("wait " + wrong)
            self.no_row("on key " + wrong, ("talk main", "wait 1"))
            self.no_row("box a " + wrong, ())
        for wrong in ("00", "01", "10", "99", "-1", "+1", "0123456789"):
            self.no_row("put a " + wrong)
            self.no_row("if a = " + wrong)
            self.no_row("put a ( 1 + " + wrong + " )")

    def test_sizes(self):
        for size in range(2, 6):
            self.told(["box a " + str(size)], ([("a", size)], []))
        for wrong in ("0", "1", "6", "7", "8", "9", "02", "22"):
            self.no_row("box a " + wrong, ())

    def test_not_and_and_are_no_boxes(self):
        for name in ("not", "and"):
            self.no_row("box " + name + " 2", ())
            self.no_row("put " + name + " 1")
            self.no_row("put a " + name)
            self.no_row("put a ( " + name + " + 1 )")
            self.no_row("put a ( 1 - " + name + " )")
            self.no_row("if " + name + " = 1")
            self.no_row("if 1 < " + name)
            self.no_row("if not " + name + " = 1")
            self.no_row("if ( " + name + " = 1 and a = 1 )")
        self.told(["talk not", "call and", "say not", "end"], ([], [("not", [("call", "and"), ("say", "not")])]))

    def test_rows_of_no_known_kind(self):
        for row in ("test a = 1", "hello", "Say a", "SAY a", "say", "#", "# say a", "ends", "key 1", "other", "none",
                    "number 1", "loops", "say: a", "(", "1"):
            self.no_row(row)
            self.no_row(row, ())
            self.no_row(row, ("talk main", "wait 1"))

    def test_words_too_few_and_too_many(self):
        for row in ("say", "say a b", "hand", "hand 1", "hand a", "hand a 1", "hand 1 a b", "put", "put a", "call",
                    "call a b", "wait", "wait 1 2", "loop 1", "again 1", "leave a", "back a", "stop a", "end a"):
            self.no_row(row)
        for row in ("box", "box a", "box 2", "box 2 a", "box a 2 2", "talk", "talk a b", "talk 1"):
            self.no_row(row, ())
        for row in ("on", "on key", "on word", "on 1", "on key 1 2", "on key a", "on word 1", "on word a b", "on other 1",
                    "on other a", "on none a", "on quiet", "on a", "on none none", "on key key"):
            self.no_row(row, ("talk main", "wait 1"))


class RowsRefused(Case):
    def test_a_box_behind_a_talk(self):
        self.no_row("box a 2", ("talk main", "end"))
        self.no_row("box a 2", ("box b 2", "talk main", "say a", "end"))

    def test_a_box_or_a_talk_in_a_talk(self):
        for ahead in (("talk main",), ("talk main", "say a"), ("talk main", "loop"), ("talk main", "if a = 1"),
                      ("talk main", "wait 1"), ("talk main", "wait 1", "on other")):
            self.no_row("talk sub", ahead)
            self.no_row("box a 2", ahead)

    def test_outside_a_talk(self):
        for ahead in ((), ("box a 2",), ("talk main", "end")):
            for row in ("say a", "hand 1 a", "put a 1", "if a = 1", "else", "wait 1", "on key 1", "on other", "loop",
                        "again", "leave", "call main", "back", "stop", "end"):
                self.no_row(row, ahead)

    def test_an_else_where_no_if_is_open(self):
        for ahead in (("talk main",), ("talk main", "loop"), ("talk main", "wait 1"), ("talk main", "wait 1", "on other"),
                      ("talk main", "if a = 1", "end"), ("talk main", "if a = 1", "loop"),
                      ("talk main", "if a = 1", "wait 1", "on none"), ("talk main", "if a = 1", "else"),
                      ("talk main", "if a = 1", "say a", "else", "say b"),
                      ("talk main", "if a = 1", "else", "if a = 1", "else", "end")):
            self.no_row("else", ahead)

    def test_an_on_outside_a_wait(self):
        for ahead in (("talk main",), ("talk main", "loop"), ("talk main", "if a = 1"), ("talk main", "if a = 1", "else"),
                      ("talk main", "wait 1", "end"), ("talk main", "wait 1", "on other", "loop"),
                      ("talk main", "wait 1", "on other", "if a = 1")):
            for row in ("on key 1", "on word a", "on other", "on none"):
                self.no_row(row, ahead)

    def test_a_statement_in_a_wait_ahead_of_its_first_branch(self):
        for row in ("say a", "hand 1 a", "put a 1", "if a = 1", "wait 1", "loop", "again", "leave", "call a", "back", "stop"):
            self.no_row(row, ("talk main", "wait 1"))
            self.no_row(row, ("talk main", "wait 1", "", "on other", "wait 2", " "))

    def test_an_end_where_nothing_is_open(self):
        self.no_row("end", ())
        self.no_row("end", ("talk main", "end"))
        self.no_row("end", ("talk main", "loop", "end", "wait 1", "on other", "end", "if a = 1", "else", "end", "end"))

    def test_rows_of_no_words_are_counted(self):
        self.no_row("end", ("", "  ", ""))
        self.no_row("say", ("", "talk main", "", "   "))

    def test_only_the_first_row_is_told(self):
        self.refused("talk main\nsay\nsay\nhello", 2)
        self.refused("box a 2\nbox a 6\ntalk\n", 2)


class EndedTooEarly(Case):
    def test_one_more_than_its_rows(self):
        self.refused("talk main", 2)
        self.refused("talk main\nsay a", 3)
        self.refused("talk main\nloop\nend", 4)
        self.refused("talk main\nwait 1\non other\nend", 5)
        self.refused("talk main\nif a = 1\nelse", 4)
        self.refused("talk main\nend\ntalk sub", 4)

    def test_rows_of_no_words_at_the_end_are_counted(self):
        self.refused("talk main\n", 3)
        self.refused("talk main\n\n", 4)
        self.refused("\ntalk main\n  ", 4)
        self.refused("talk main\nloop\nend\n\n\n", 7)

    def test_each_beginning_of_rows(self):
        rows = shown(EVERYTHING).split("\n")
        for count in range(len(rows) + 1):
            text = "\n".join(rows[:count])
            told = read_plainly(text)
            if isinstance(told, int):
                self.assertEqual(told, count + 1)
                self.refused(text, count + 1)
            else:
                self.told(rows[:count], told)

    def test_each_beginning_of_signs(self):
        text = shown(EVERYTHING)
        for count in range(len(text) + 1):
            told = read_plainly(text[:count])
            if isinstance(told, int):
                self.assertIn(told - text[:count].count("\n"), (1, 2))
                self.refused(text[:count], told)
            else:
                self.told([text[:count]], told)


class BesideAnotherReader(Case):
    def spoiled(self, chance, text):
        """The text with one or two small things changed."""
        for count in range(chance.randrange(1, 3)):
            rows = text.split("\n")
            place = chance.randrange(len(rows))
            words = rows[place].split(" ")
            word = chance.randrange(len(words))
            what = chance.randrange(9)
            if what == 0:
                rows.pop(place)
            elif what == 1:
                rows.insert(place, chance.choice(rows))
            elif what == 2:
                other = chance.randrange(len(rows))
                rows[place], rows[other] = rows[other], rows[place]
            elif what == 3:
                rows[place] = " ".join(words[:word] + words[word + 1:])
            elif what == 4:
                rows[place] = " ".join(words[:word] + [words[word]] + words[word:])
            elif what == 5:
                words[word] = chance.choice(text.split())
                rows[place] = " ".join(words)
            elif what == 6:
                sign = chance.randrange(len(rows[place]) + 1)
                rows[place] = rows[place][:sign] + chance.choice(" \ta1(+X") + rows[place][sign:]
            elif what == 7:
                rows = rows[:place]
            else:
                rows.insert(place, chance.choice(("", " ", "else", "end", "on other", "box a 2", "loop", "talk a")))
            text = "\n".join(rows)
            if text == "":
                return text
        return text

    def test_spoiled_texts(self):
        refused = 0
        for seed in range(40):
            maker = Maker(seed, True)
            chance = random.Random(seed)
            for count in range(50):
                text = shown(maker.script())
                if text == "":
                    continue
                text = self.spoiled(chance, text)
                told = read_plainly(text)
                if isinstance(told, int):
                    refused += 1
                    with self.assertRaises(NoScript, msg=text) as caught:
                        read_script(text)
                    self.assertEqual(caught.exception.row, told, text)
                else:
                    self.assertEqual(read_script(text), told, text)
        self.assertGreater(refused, 500)


class NothingKept(Case):
    def spoil(self, thing):
        """Changes every list in the thing."""
        if isinstance(thing, (list, tuple)):
            for part in thing:
                self.spoil(part)
        if isinstance(thing, list):
            thing.append("spoiled")

    def test_told_anew_the_same(self):
        for script in (EVERYTHING, ([], []), ([], [("main", [("test", A_IS_1, [], []), ("loop", []), ("wait", 0, [])])])):
            text = shown(script)
            told = read_script(text)
            again = read_script(text)
            self.spoil(told)
            self.assertEqual(again, script)
            self.assertEqual(read_script(text), script)

    def test_no_list_stands_twice_in_it(self):
        script = read_script("\n".join(["talk main"] + ["if a = 1", "end", "loop", "end", "wait 0", "end"] * 2 + ["end"]))
        body = script[1][0][1]
        body[0][2].append(("stop",))
        self.assertEqual(body[0], ("test", A_IS_1, [("stop",)], []))
        self.assertEqual(body[3:], [("test", A_IS_1, [], []), ("loop", []), ("wait", 0, [])])

    def test_kinds(self):
        boxes, talks = read_script(shown(EVERYTHING))
        self.assertIs(type(boxes), list)
        self.assertIs(type(talks), list)
        self.assertIs(type(boxes[0]), tuple)
        self.assertIs(type(boxes[0][1]), int)
        self.assertIs(type(talks[0][1]), list)
        self.assertIs(type(talks[0][1][6][1][0][2]), list)

    def test_what_was_refused_changes_nothing(self):
        self.refused("box a 2\ntalk main\nsay a\nno", 4)
        self.told(["box b 3"], ([("b", 3)], []))
        self.refused("end", 1)

    def test_the_refusal_is_of_its_class_alone(self):
        with self.assertRaises(MillError) as caught:
            read_script("end")
        self.assertIs(type(caught.exception), NoScript)
        for other in (TooMany, NoForm, NoneYet):
            self.assertNotIsInstance(caught.exception, other)


if __name__ == "__main__":
    unittest.main()
