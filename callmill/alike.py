"""Two scripts, told alike or unlike."""

from callmill.machines import events_of_patterns, patterns_of
from callmill.papers import gone_through
from callmill.teller import Teller


def both_events(one, other):
    """The events of two scripts, of the patterns of both together."""
    return events_of_patterns(patterns_of(one) + patterns_of(other))


def told_alike(one, other):
    """("alike", a right paper of both tellers) or ("unlike", the first of the shortest rows that part them)."""
    told = gone_through(Teller(one), Teller(other), both_events(one, other))
    if told[1] is None:
        return ("alike", told[0])
    return ("unlike", told[1])
