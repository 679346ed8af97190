"""The desk: rows told, and answered by texts."""

from callmill.alike import told_alike
from callmill.errors import NoForm, NoneYet
from callmill.events import is_word
from callmill.looker import faults
from callmill.machines import QUIET, run
from callmill.mill import milled
from callmill.packed import PackMachine
from callmill.reader import read_figure, read_script

ROW = "row "


class Desk:
    """Keeps rows of a script's text, a sound script with what was milled of it, and another script beside."""

    def __init__(self):
        self.rows = []
        self.script = None
        self.parts = None
        self.beside = None

    def say(self, row):
        """The answer to a row."""
        if row.startswith(ROW) and "\n" not in row:
            self.rows.append(row[len(ROW):])
            return "ok"
        words = row.split(" ")
        if words[0] == "run":
            return self.shown_run([read_event(word) for word in words[1:]])
        if row == "drop":
            self.rows = []
            return "ok"
        if row == "read":
            return self.read_rows()
        if row == "keep":
            self.beside = self.own_script()
            return "ok"
        if row == "mill":
            return shown_counts(self.milled_parts())
        if row == "alike":
            return self.shown_alike()
        raise NoForm("the desk knows no such row")

    def read_rows(self):
        """Reads the rows as a script, which is the desk's own where it is sound."""
        script = read_script("\n".join(self.rows))
        found = faults(script)
        if len(found) > 0:
            return shown_fault(found[0])
        self.script = script
        self.parts = None
        return "sound"

    def own_script(self):
        """The desk's script."""
        if self.script is None:
            raise NoneYet("the desk has no script")
        return self.script

    def milled_parts(self):
        """What is milled of the desk's script, once."""
        script = self.own_script()
        if self.parts is None:
            self.parts = milled(script)
        return self.parts

    def shown_run(self, events):
        """What the machine of the script's pack says by these events."""
        sayings = run(PackMachine(self.milled_parts()[4]), events)
        return " / ".join([" ".join(said) if len(said) > 0 else "-" for said in sayings])

    def shown_alike(self):
        """Whether the desk's script and the one beside are alike, else the row of events that parts them."""
        script = self.own_script()
        if self.beside is None:
            raise NoneYet("no script is kept beside")
        told = told_alike(script, self.beside)
        if told[0] == "alike":
            return "alike"
        return " ".join(["unlike"] + [str(event[-1]) for event in told[1]])


def read_event(word):
    """The event that the word writes."""
    if word == QUIET[0]:
        return QUIET
    key = read_figure(word)
    if key is not None:
        return ("key", key)
    if is_word(word):
        return ("word", word)
    raise NoForm("no event is written so")


def shown_fault(fault):
    """The fault's text, a word without signs told as -."""
    return " ".join(["fault"] + [word if word != "" else "-" for word in fault])


def shown_counts(parts):
    """How many nodes, rooms and cells there are in what was milled."""
    graph_nodes = len(parts[0][1])
    small_nodes = len(parts[1][1])
    rooms = len(parts[2][2])
    least_rooms = len(parts[3][2])
    cells = len(parts[4][2])
    return f"nodes {graph_nodes} {small_nodes} rooms {rooms} {least_rooms} cells {cells}"
