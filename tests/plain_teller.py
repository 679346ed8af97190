"""Another teller of scripts, by Python's own generators and errors, to set beside the program's; and a lowering."""

from callmill.exprs import holds, worth
from callmill.writer import shown


class Again(Exception):
    pass


class Leave(Exception):
    pass


class Back(Exception):
    pass


class Stop(Exception):
    pass


WAYS = {"again": Again, "leave": Leave, "back": Back, "stop": Stop}


class PlainTeller:
    """Goes through a script once, from its beginning on; turn(event) tells what is said."""

    def __init__(self, script):
        self.boxes, self.talks = script
        self.held = {name: 0 for name, size in self.boxes}
        self.said = []
        self.is_over = False
        self.going = self.whole()

    def now(self):
        return tuple(self.held[name] for name, size in self.boxes)

    def begin(self):
        return self.turn(None)

    def turn(self, event):
        self.said = []
        if not self.is_over:
            try:
                self.going.send(event)
            except StopIteration:
                self.is_over = True
        return self.said

    def whole(self):
        try:
            yield from self.body(self.talks[0][1])
        except (Back, Stop):
            pass

    def body(self, body):
        for statement in body:
            yield from getattr(self, "do_" + statement[0])(*statement[1:])

    def do_say(self, word):
        self.said.append(word)
        yield from ()

    def do_hand(self, line, word):
        self.said.append(str(line) + ":" + word)
        yield from ()

    def do_put(self, name, expression):
        size = dict(self.boxes)[name]
        rest = worth(expression, self.boxes, self.now())
        while rest < 0:
            rest += size
        while rest >= size:
            rest -= size
        self.held[name] = rest
        yield from ()

    def do_test(self, condition, yes, no):
        if holds(condition, self.boxes, self.now()):
            yield from self.body(yes)
        else:
            yield from self.body(no)

    def do_loop(self, body):
        try:
            while True:
                try:
                    yield from self.body(body)
                except Again:
                    pass
        except Leave:
            pass

    def do_call(self, name):
        try:
            yield from self.body(dict(self.talks)[name])
        except Back:
            pass

    def way(self, kind):
        raise WAYS[kind]
        yield

    def do_again(self):
        yield from self.way("again")

    def do_leave(self):
        yield from self.way("leave")

    def do_back(self):
        yield from self.way("back")

    def do_stop(self):
        yield from self.way("stop")

    def do_wait(self, limit, branches):
        bodies = dict(branches)
        gone = 0
        while True:
            event = yield
            if event[0] != "quiet" and event in bodies:
                yield from self.body(bodies[event])
                return
            if event[0] != "quiet" and ("other",) in bodies:
                yield from self.body(bodies[("other",)])
                return
            gone += 1
            if gone == limit:
                yield from self.body(bodies.get(("none",), []))
                return


def set_beside(case, machine, script, events, names=None):
    """Steps both by these events and fails where they part; tells how many turns said something, and whether it is over.

    Of the values those of the boxes of these names are set beside, of all where none are told.
    """
    text = shown(script)
    plain = PlainTeller(script)
    turns = 0
    said, standing = machine.begin()
    case.assertEqual(said, plain.begin(), text)
    for event in events:
        said, standing = machine.step(standing, event)
        case.assertEqual(said, plain.turn(event), text)
        case.assertIs(machine.over(standing), plain.is_over, text)
        values = plain.now() if names is None else tuple(plain.held[name] for name in names)
        case.assertEqual(machine.values(standing), () if plain.is_over else values, text)
        turns += said != []
    return (turns, plain.is_over)


class Lowering:
    """Lowers a script to a graph, from its statements' ends to their beginnings."""

    def __init__(self, script):
        self.boxes, self.talks = script
        self.nodes = [("stop",), ("back",)]
        self.entries = {}

    def graph(self):
        return (list(self.boxes), self.nodes, self.entry(self.talks[0][0]))

    def node(self, node):
        self.nodes.append(node)
        return len(self.nodes) - 1

    def entry(self, name):
        if name not in self.entries:
            self.entries[name] = self.body(dict(self.talks)[name], 1, None)
        return self.entries[name]

    def body(self, body, behind, loop):
        for statement in reversed(body):
            behind = self.statement(statement, behind, loop)
        return behind

    def statement(self, statement, behind, loop):
        kind = statement[0]
        if kind in ("say", "hand", "put"):
            return self.node(statement + (behind,))
        if kind == "test":
            yes, no = (self.body(body, behind, loop) for body in statement[2:])
            return self.node(("test", statement[1], yes, no))
        if kind == "wait":
            return self.wait(statement, behind, loop)
        if kind == "loop":
            # A test that always holds keeps the number of the loop's begin until its body is there.
            start = self.node(None)
            entry = self.body(statement[1], start, (start, behind))
            self.nodes[start] = ("test", ("same", ("number", 0), ("number", 0)), entry, start)
            return start
        if kind == "call":
            return self.node(("call", self.entry(statement[1]), behind))
        return {"again": loop and loop[0], "leave": loop and loop[1], "back": 1, "stop": 0}[kind]

    def wait(self, statement, behind, loop):
        number = self.node(None)
        ways = [(pattern, self.body(body, behind, loop)) for pattern, body in statement[2]]
        none = dict(ways).get(("none",), behind) if statement[1] > 0 else number
        branches = tuple(branch for branch in ways if branch[0] != ("none",))
        self.nodes[number] = ("wait", statement[1], branches, none)
        return number
