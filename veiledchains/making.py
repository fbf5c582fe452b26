"""Chains made of chains."""

from veiledchains.bounds import MAX_STATES
from veiledchains.chains import plain
from veiledchains.errors import TooMany, Unfit
from veiledchains.evened import evened, multiplied_line
from veiledchains.parts import next_parts
from veiledchains.reach import coming


def ordered(chain, order):
    """The chain whose state k is the state order[k] of chain."""
    signs, start, steps, tells = chain
    lines = tuple([_picked(steps[state], order) for state in order])
    return (signs, _picked(start, order), lines, _picked(tells, order))


def _picked(line, states):
    return tuple([line[state] for state in states])


def slim(chain):
    """The plain chain of just the states that come, and the tuple of these states."""
    states = coming(chain)
    # No state that comes leads to one that does not: so all shares stay.
    return (plain(ordered(chain, states)), states)


def mixed(one, other, first, second):
    """The plain chain that goes as one by the share first / (first + second), and otherwise as other."""
    if one[0] != other[0]:
        raise Unfit()
    many = len(one[1])
    more = len(other[1])
    if many + more > MAX_STATES:
        raise TooMany(MAX_STATES)
    start = multiplied_line(one[1], first * sum(other[1])) + multiplied_line(other[1], second * sum(one[1]))
    steps = [line + (0,) * more for line in one[2]] + [(0,) * many + line for line in other[2]]
    return plain((one[0], start, tuple(steps), one[3] + other[3]))


def behind_view(chain, view):
    """The plain chain of what comes behind view, now that it was seen."""
    signs, _, steps, tells = chain
    return plain((signs, tuple(next_parts(evened(chain), view)), steps, tells))
