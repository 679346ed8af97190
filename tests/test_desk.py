"""Points 2, 3, 46 and 47: the desk."""

import random
import unittest

from callmill.alike import told_alike
from callmill.desk import Desk
from callmill.errors import MillError, NoForm, NoneYet, NoScript, TooMany
from callmill.looker import faults, sound
from callmill.machines import run
from callmill.mill import milled
from callmill.reader import read_script
from callmill.teller import Teller
from callmill.writer import shown
from chance_scripts import Maker, any_events

ASK = """talk main
  say hello
  wait 2
    on key 1
      hand 3 yes
      say good
    on word no
      say bad
    on none
      say bye
  end
end"""
STAYS = "talk main\n  loop\n    wait 0\n    end\n  end\nend"
TICKS = "talk main\nloop\nwait 3\non none\nsay tick\nend\nend\nend"


def big(*more):
    """A text of 2000 standings, and of more with more branches."""
    rows = ["box a 5", "box b 5", "box c 5", "talk main", "loop", "wait 0"]
    for number, name in enumerate("abc", 1):
        rows += ["on key %d" % number, "put %s ( %s + 1 )" % (name, name)]
    rows += ["on key 4", "wait 9", "on key 0", "end", "wait 6", "on key 0", "end", *more, "end", "end", "end"]
    return "\n".join(rows)


class DeskCase(unittest.TestCase):
    def setUp(self):
        self.desk = Desk()

    def told(self, row, answer):
        told = self.desk.say(row)
        self.assertIs(type(told), str)
        self.assertEqual(told, answer)

    def refused(self, row, error):
        with self.assertRaises(MillError) as caught:
            self.desk.say(row)
        self.assertIs(type(caught.exception), error, row)
        return caught.exception

    def write(self, text):
        """Drops the rows and puts in those of the text."""
        self.told("drop", "ok")
        for row in text.split("\n"):
            self.told("row " + row, "ok")

    def read(self, text, answer="sound"):
        self.write(text)
        self.told("read", answer)


class Rows(DeskCase):
    def test_a_script(self):
        for row in ASK.split("\n"):
            self.told("row " + row, "ok")
        self.told("read", "sound")
        self.told("run", "hello")

    def test_rows_stay_behind_read(self):
        self.read("talk main\nsay a\nend")
        self.told("read", "sound")
        self.told("row talk sub", "ok")
        self.assertEqual(self.refused("read", NoScript).row, 5)
        self.told("row end", "ok")
        self.told("read", "sound")
        self.told("row talk sub", "ok")
        self.told("row end", "ok")
        self.told("read", "fault sub twice sub")
        self.told("read", "fault sub twice sub")

    def test_rows_stay_behind_all_else(self):
        self.read("talk main\nsay a\nend")
        for row in ("keep", "mill", "run 1", "alike"):
            self.desk.say(row)
        for row in ("run ", "", "rows"):
            self.refused(row, NoForm)
        self.told("row talk more", "ok")
        self.told("row end", "ok")
        self.told("read", "sound")
        self.told("run", "a")

    def test_drop(self):
        self.read("talk main\nsay a\nend")
        self.told("drop", "ok")
        self.told("read", "fault - none -")
        # The script stays.
        self.told("run", "a")
        self.told("drop", "ok")
        self.told("drop", "ok")
        self.read("talk main\nsay b\nend")
        self.told("run", "b")

    def test_a_blank_and_nothing_behind_it(self):
        self.told("row talk main", "ok")
        self.told("row ", "ok")
        self.told("row ", "ok")
        self.told("row end", "ok")
        self.told("row ", "ok")
        self.told("read", "sound")
        self.told("row nonsense", "ok")
        self.assertEqual(self.refused("read", NoScript).row, 6)

    def test_blanks_ahead(self):
        # The first blank belongs to the desk's row, the others to the script's.
        self.told("row talk main", "ok")
        self.told("row       say a", "ok")
        self.told("row  ", "ok")
        self.told("row  end", "ok")
        self.told("read", "sound")
        self.told("run", "a")

    def test_odd_signs(self):
        for signs in ("\t", " say a ", "say  a", "say a\t", "~!@#$^&*(){}[]|\\\"'`", "drop", "read", "row", "row x", "-", "0"):
            self.told("drop", "ok")
            self.told("row talk main", "ok")
            self.told("row " + signs, "ok")
            self.told("row end", "ok")
            self.assertEqual(self.refused("read", NoScript).row, 2)

    def test_row_alone_is_none(self):
        self.refused("row", NoForm)
        for row in ("row\t", "row\ttalk main", "rows", "rowtalk main", "Row talk main", "ROW ", " row talk main", "ro"):
            self.refused(row, NoForm)
        self.told("read", "fault - none -")

    def test_no_line_feeds(self):
        for row in ("row talk main\nend", "row \n", "row talk main\n", "row\n", "\nrow talk main", "drop\n", "read\n", "\nread", "run\n"):
            self.refused(row, NoForm)
        self.told("read", "fault - none -")


class Read(DeskCase):
    def test_faults(self):
        for text, answer in (
                ("", "fault - none -"), ("box a 2", "fault - none -"), ("box a 2\nbox a 2", "fault - twice a"),
                ("talk main\nend\ntalk main\nend", "fault main twice main"), ("talk main\nput a 1\nend", "fault main box a"),
                ("talk main\ncall sub\nend", "fault main talk sub"), ("talk main\nagain\nend", "fault main again -"),
                ("talk sub\nleave\nend", "fault sub leave -"), ("talk main\nwait 0\non key 1\non key 1\nend\nend", "fault main branch key 1"),
                ("talk main\nwait 1\non other\non other\nend\nend", "fault main branch other"),
                ("talk main\nwait 1\non word no\non word no\nend\nend", "fault main branch word no"),
                ("talk main\nwait 0\non none\nend\nend", "fault main limit -"), ("talk main\ncall main\nend", "fault main round -"),
                ("talk main\nloop\nend\nend", "fault main dry -"),
                # The first one alone.
                ("talk main\nput b a\nagain\nend", "fault main box b")):
            self.read(text, answer)

    def test_no_rows(self):
        self.told("read", "fault - none -")
        self.refused("run", NoneYet)

    def test_texts_that_write_none(self):
        for text, row in (("talk main", 2), ("say a", 1), ("talk main\nsay A\nend", 2), ("talk main\nend\nend", 3), ("box a 6", 1),
                          ("talk main\nloop\n", 4), ("\n\nx", 3)):
            self.write(text)
            error = self.refused("read", NoScript)
            self.assertEqual(error.row, row)
            self.refused("run", NoneYet)

    def test_a_script_that_is_not_sound_leaves_the_one_ahead(self):
        self.read("talk main\nsay a\nend")
        self.read("talk main\nsay b\nagain\nend", "fault main again -")
        self.told("run", "a")
        self.write("talk main\nsay c")
        self.refused("read", NoScript)
        self.told("run", "a")
        self.told("keep", "ok")
        self.read("talk main\nsay d\nend")
        self.told("run", "d")
        self.told("mill", "nodes 2 2 rooms 1 1 cells 11")

    def test_a_new_one_takes_its_place(self):
        for word in ("a", "b", "c", "a"):
            self.read("talk main\nsay %s\nend" % word)
            self.told("run", word)
            self.told("run 1", word + " / -")

    def test_the_rows_are_read_when_it_is_asked(self):
        self.read("talk main\nsay a\nend")
        self.write("talk main\nsay b\nend")
        self.told("run", "a")
        self.told("read", "sound")
        self.told("run", "b")


class Mill(DeskCase):
    def test_counts(self):
        for text in (ASK, STAYS, TICKS, "talk main\nend", "box a 3\ntalk main\nloop\nput a 1\nwait 2\nend\nend\nend"):
            self.read(text)
            graph, small, table, least, packed, papers = milled(read_script(text))
            self.told("mill", "nodes %d %d rooms %d %d cells %d" % (
                len(graph[1]), len(small[1]), len(table[2]), len(least[2]), len(packed[2])))

    def test_word_by_word(self):
        self.read("talk main\nend")
        self.told("mill", "nodes 1 1 rooms 1 1 cells 9")
        # Three turns that tell nothing apart.
        self.read("talk main\nloop\nwait 3\nend\nend\nend")
        self.told("mill", "nodes 2 1 rooms 3 1 cells 9")
        self.told("mill", "nodes 2 1 rooms 3 1 cells 9")


class Run(DeskCase):
    def test_at_the_beginning(self):
        self.read(ASK)
        self.told("run", "hello")
        self.read(STAYS)
        self.told("run", "-")
        self.read("talk main\nsay a\nhand 3 b\nsay c\nend")
        self.told("run", "a 3:b c")

    def test_events(self):
        self.read(ASK)
        self.told("run quiet", "hello / -")
        self.told("run 1", "hello / 3:yes good")
        self.told("run no", "hello / bad")
        self.told("run yes quiet", "hello / - / bye")
        self.told("run quiet 1 quiet", "hello / - / 3:yes good / -")
        self.told("run 2 3", "hello / - / bye")
        self.told("run quiet quiet quiet no", "hello / - / bye / - / -")

    def test_each_figure_and_words(self):
        self.read("talk main\nloop\nwait 0\non key 0\nsay zero\non key 9\nsay nine\non word a\nsay a\non word abcdefgh\nsay long\n"
                  "on other\nsay other\nend\nend\nend")
        self.told("run 0 1 2 3 4 5 6 7 8 9", "- / zero / other" + " / other" * 7 + " / nine")
        self.told("run a abcdefgh b z run row read mill", "- / a / long" + " / other" * 6)
        self.told("run quiet 0", "- / - / zero")

    def test_many_events(self):
        self.read(TICKS)
        self.told("run" + " quiet" * 300, "-" + " / - / - / tick" * 100)

    def test_no_such_form(self):
        self.read(ASK)
        for row in ("run ", "run  quiet", "run quiet ", "run quiet  1", " run", "run 10", "run 01", "run -1", "run Quiet", "run abcdefghi",
                    "run yes1", "run key 1 A", "run 1,2", "run \tquiet", "run\tquiet", "run quiet\n", "run -", "run 1.", "run 3:yes", "runs",
                    "run_", "run a b c D", "Run", "run +1", "run x-y"):
            self.refused(row, NoForm)
        self.told("run quiet", "hello / -")

    def test_beside_tellers(self):
        maker, chance = Maker(141), random.Random(141)
        count = said = 0
        while count < 150:
            script = maker.script()
            if not sound(script):
                continue
            try:
                milled(script)
            except TooMany:
                continue
            count += 1
            self.read(shown(script))
            for row in range(3):
                # The word quiet is none at the desk.
                events = [event for event in any_events(chance, 10) if event != ("word", "quiet")]
                answer = " / ".join(" ".join(each) or "-" for each in run(Teller(script), events))
                self.told(" ".join(["run"] + [str(event[-1]) for event in events]), answer)
                said += answer.count("-") < len(events)
        self.assertGreater(said, 20)


class Alike(DeskCase):
    def test_alike(self):
        self.read(ASK)
        self.told("keep", "ok")
        self.told("alike", "alike")
        self.read(ASK.replace("main", "begin"))
        self.told("alike", "alike")

    def test_unlike(self):
        self.read(ASK)
        self.told("keep", "ok")
        for old, new, answer in (("hello", "hullo", "unlike"), ("good", "fine", "unlike 1"), ("bad", "poor", "unlike no"),
                                 ("bye", "end", "unlike quiet quiet"), ("wait 2", "wait 3", "unlike quiet quiet"),
                                 ("key 1", "key 2", "unlike 1"), ("word no", "word a", "unlike a")):
            self.read(ASK.replace(old, new))
            self.told("alike", answer)

    def test_both_ways(self):
        texts = (ASK, ASK.replace("good", "fine"), ASK.replace("wait 2", "wait 3"))
        for one in texts:
            for other in texts:
                self.read(one)
                self.told("keep", "ok")
                self.read(other)
                answer = told_alike(read_script(other), read_script(one))
                if one == other:
                    self.assertEqual(answer[0], "alike")
                    self.told("alike", "alike")
                else:
                    self.told("alike", " ".join(["unlike"] + [str(event[-1]) for event in answer[1]]))

    def test_an_event_that_no_branch_has(self):
        self.read("talk main\nloop\nwait 0\non key 0\nend\nend\nend")
        self.told("keep", "ok")
        self.read("talk main\nloop\nwait 0\non key 0\non other\nsay a\nend\nend\nend")
        self.told("alike", "unlike 1")

    def test_keep_again(self):
        self.read(ASK)
        self.told("keep", "ok")
        self.read(STAYS)
        self.told("alike", "unlike")
        self.told("keep", "ok")
        self.told("alike", "alike")
        self.read(ASK)
        self.told("alike", "unlike")

    def test_what_is_kept_stays(self):
        self.read(STAYS)
        self.told("keep", "ok")
        self.read("talk main\nsay a\nagain\nend", "fault main again -")
        self.told("alike", "alike")
        self.told("drop", "ok")
        self.told("alike", "alike")
        self.told("run", "-")


class Refused(DeskCase):
    def test_no_form(self):
        for ready in (False, True):
            if ready:
                self.read(ASK)
                self.told("keep", "ok")
            for row in ("", " ", "x", "drop ", " drop", "drop x", "read ", "read x", "keep ", "keep 1", "mill ", "mill x", "alike ",
                        "alike x", "Alike", "DROP", "reads", "kee", "quiet", "sound", "say a", "row", "1", "talk main", "\t", "unlike",
                        "ok", "mill\t", "keep\n", "\n"):
                self.refused(row, NoForm)
        self.told("alike", "alike")

    def test_no_script_yet(self):
        for row in ("keep", "mill", "run", "run quiet", "run 1 yes", "alike"):
            self.refused(row, NoneYet)
        self.write(ASK)
        for row in ("keep", "mill", "run", "run quiet", "alike"):
            self.refused(row, NoneYet)
        self.told("read", "sound")
        self.refused("alike", NoneYet)
        self.told("run 1", "hello / 3:yes good")
        self.told("keep", "ok")
        self.told("alike", "alike")

    def test_none_kept(self):
        self.read(ASK)
        self.refused("alike", NoneYet)
        self.told("run", "hello")
        self.refused("alike", NoneYet)

    def test_form_first(self):
        for row in ("run ", "run 10", "run A", "alike ", "mill 1", "keep x"):
            self.refused(row, NoForm)
        self.write("nonsense")
        self.refused("read ", NoForm)
        self.refused("read", NoScript)
        self.refused("run 10", NoForm)
        self.read(big("on key 5", "stop"))
        self.refused("run 10", NoForm)
        self.refused("run", TooMany)

    def test_too_many(self):
        self.read(big("on key 5", "stop"))
        for row in ("mill", "run", "run 1", "mill"):
            self.refused(row, TooMany)
        # None kept comes ahead of too many.
        self.refused("alike", NoneYet)
        self.told("keep", "ok")
        self.refused("alike", TooMany)
        self.read(STAYS)
        self.refused("alike", TooMany)
        self.told("run", "-")
        self.told("keep", "ok")
        self.read(big("on key 5", "stop"))
        self.refused("alike", TooMany)
        self.refused("run", TooMany)

    def test_just_two_thousand(self):
        self.read(big())
        self.told("run 4 0 quiet", "- / - / - / -")
        self.told("keep", "ok")
        self.told("alike", "alike")
        self.assertRegex(self.desk.say("mill"), "^nodes [0-9]+ [0-9]+ rooms [0-9]+ [0-9]+ cells [0-9]+$")

    def test_more_pairs(self):
        rounds = []
        for count in (41, 49):
            limits = [9] * (count // 9) + [count % 9]
            rounds.append("talk main\nloop\n" + "\n".join("wait %d\nend" % limit for limit in limits) + "\nend\nend")
        self.read(rounds[0])
        self.told("keep", "ok")
        self.read(rounds[1])
        self.refused("alike", TooMany)
        self.told("run", "-")
        self.read(rounds[0])
        self.told("alike", "alike")

    def test_what_is_refused_changes_nothing(self):
        self.read(ASK)
        self.told("keep", "ok")
        self.read(ASK.replace("good", "fine"))
        self.told("row talk sub", "ok")
        for row, error in (("read", NoScript), ("row", NoForm), ("row end\n", NoForm), ("drop ", NoForm), ("run 10", NoForm), ("", NoForm)):
            self.refused(row, error)
            self.told("alike", "unlike 1")
            self.told("run 1", "hello / 3:yes fine")
        self.told("row end", "ok")
        self.told("read", "sound")
        self.told("alike", "unlike 1")

    def test_two_desks(self):
        other = Desk()
        self.read(ASK)
        self.told("keep", "ok")
        with self.assertRaises(NoneYet):
            other.say("run")
        self.assertEqual(other.say("read"), "fault - none -")
        other.say("row talk main")
        other.say("row end")
        self.assertEqual(other.say("read"), "sound")
        with self.assertRaises(NoneYet):
            other.say("alike")
        self.told("run", "hello")


class ByChance(DeskCase):
    def test_answers_of_scripts(self):
        maker = Maker(142, True)
        found = {}
        for count in range(150):
            script = maker.script()
            text = shown(script)
            self.write(text)
            answer = self.desk.say("read")
            fault = faults(read_script(text))
            if fault:
                self.assertEqual(answer, "fault " + " ".join(part or "-" for part in fault[0]))
            else:
                self.assertEqual(answer, "sound")
            found[answer[:5]] = found.get(answer[:5], 0) + 1
        self.assertGreater(found["fault"], 20)


if __name__ == "__main__":
    unittest.main()
