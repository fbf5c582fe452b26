"""Chains: quadruples (signs, start, steps, tells)."""

from math import gcd

from veiledchains.bounds import MAX_SIGNS, MAX_STATES
from veiledchains.fractions import lowest
from veiledchains.kinds import ascends, is_whole


def chain_error(value):
    """None for a chain, otherwise what is first wrong with value."""
    if not isinstance(value, tuple) or len(value) != 4:
        return "form"
    signs, start, steps, tells = value
    if not are_signs(signs):
        return "signs"
    if not _is_line(start) or len(start) > MAX_STATES:
        return "start"
    error = _lines_error(steps, "steps", len(start), len(start))
    if error is None:
        error = _lines_error(tells, "tells", len(start), len(signs))
    return error


def are_signs(value):
    """Whether value is a string of signs that a chain can tell."""
    if not isinstance(value, str) or not 1 <= len(value) <= MAX_SIGNS:
        return False
    return all(["a" <= sign <= "z" for sign in value]) and ascends(value)


def _is_line(value):
    if not isinstance(value, tuple):
        return False
    return all([is_whole(item) and item >= 0 for item in value]) and sum(value) > 0


def _lines_error(value, word, states, width):
    if not isinstance(value, tuple) or len(value) != states:
        return word
    for state, line in enumerate(value):
        if not _is_line(line) or len(line) != width:
            return (word, state)
    return None


def plain(chain):
    """The plain chain with the shares of chain."""
    signs, start, steps, tells = chain
    return (signs, _plain_line(start), _plain_lines(steps), _plain_lines(tells))


def _plain_lines(lines):
    return tuple([_plain_line(line) for line in lines])


def _plain_line(line):
    common = 0
    for weight in line:
        common = gcd(common, weight)
    return tuple([weight // common for weight in line])


def start_share(chain, state):
    """The share with which chain begins in state."""
    return _share(chain[1], state)


def step_share(chain, one, other):
    """The share with which chain goes on from one to other."""
    return _share(chain[2][one], other)


def tell_share(chain, state, sign):
    """The share with which chain tells sign at state."""
    return _share(chain[3][state], chain[0].index(sign))


def _share(line, place):
    return lowest(line[place], sum(line))
