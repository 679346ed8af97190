"""Lines of a hall that are still for ever while no key comes."""

from callmill.errors import TooMany
from callmill.machines import MOST_STANDINGS, QUIET


def still_lines(hall, standing):
    """A tuple (lines, ahead, round): the still lines, and when the hall stands as it did before."""
    quiet = [QUIET for line in standing]
    moments = {}
    heard = [False for line in standing]
    while standing not in moments:
        if len(moments) == MOST_STANDINGS:
            raise TooMany("more than two thousand quiet turns")
        moments[standing] = len(moments)
        ended = hall.ended_lines(standing)
        told = hall.step(standing, quiet)
        heard = [known or over or len(said) > 0 for known, over, said in zip(heard, ended, told[0])]
        standing = told[1]
    ahead = moments[standing]
    lines = [line for line, known in enumerate(heard) if not known]
    return (lines, ahead, len(moments) - ahead)


def first_fall(hall, turns):
    """A tuple (turns, line): how many turns go by until a line is still, and which; None where none is."""
    standing = hall.begin()[1]
    lines = still_lines(hall, standing)[0]
    gone = 0
    while len(lines) == 0 and gone < len(turns):
        standing = hall.step(standing, turns[gone])[1]
        lines = still_lines(hall, standing)[0]
        gone += 1
    return (gone, lines[0]) if len(lines) > 0 else None
