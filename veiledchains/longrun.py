"""Where a chain is in the long run."""

from math import gcd

from veiledchains.chains import start_share, tell_share
from veiledchains.equations import solution
from veiledchains.evened import evened
from veiledchains.fractions import added, all_added, divided, lowest, multiplied, subtracted
from veiledchains.kinds import is_fraction, is_share
from veiledchains.parts import gone_on, shared
from veiledchains.reach import coming, home_lots

NOUGHT = (0, 1)
ONE = (1, 1)


def homes(chain):
    """The states and the pulse of each home."""
    return tuple([(lot, _pulse(chain[2], lot)) for lot in home_lots(chain)])


def _pulse(steps, lot):
    """The greatest common divisor of the lengths of all rounds of this home."""
    beats = {lot[0]: 0}
    found = [lot[0]]
    pulse = 0
    at = 0
    while at < len(found):
        state = found[at]
        for other in lot:
            if steps[state][other] > 0:
                if other not in beats:
                    beats[other] = beats[state] + 1
                    found.append(other)
                # Along a round these differences sum up to its length; and each one is the difference of two rounds.
                pulse = gcd(pulse, beats[state] + 1 - beats[other])
        at = at + 1
    return pulse


def _led(even, worths):
    """What is led to each state by one step, if these fractions are at the states."""
    whole = sum(even[2][0])
    led = []
    for state in range(len(worths)):
        shares = [lowest(line[state], whole) for line in even[2]]
        led.append(all_added([multiplied(worth, share) for worth, share in zip(worths, shares)]))
    return tuple(led)


def _balances(even, states):
    """For each of these states the factors of what is at each one, so that their sum is what is there less what is led.

    They are in parts of the sum of a line of steps.
    """
    whole = sum(even[2][0])
    return [[(whole if one == state else 0) - even[2][one][state] for one in states] for state in states]


def _visits(even):
    """For each state the mean number of beats at which the chain is there; 0 in homes, where it may be for ever."""
    settled = [state for lot in home_lots(even) for state in lot]
    passed = [state for state in coming(even) if state not in settled]
    whole = sum(even[2][0])
    rows = [row + [even[1][state] * whole] for state, row in zip(passed, _balances(even, passed))]
    visits = [NOUGHT for _ in even[1]]
    for state, worth in zip(passed, solution(rows)):
        visits[state] = divided(worth, (sum(even[1]), 1))
    return visits


def _entries(even, visits):
    """For each state of a home the share by which the chain comes to its home there, or begins there."""
    return [added(start_share(even, state), led) for state, led in enumerate(_led(even, visits))]


def home_shares(chain):
    """For each home the share by which the chain ever comes to it."""
    even = evened(chain)
    entries = _entries(even, _visits(even))
    return tuple([all_added([entries[state] for state in lot]) for lot in home_lots(even)])


def _settled_shares(even, lot):
    """The shares of the states of this home that stay the same by a step and sum up to 1."""
    rows = [[1 for _ in lot] + [1]]
    # One of the equations of a home follows from the others: the sum stands in its place.
    rows.extend([row + [0] for row in _balances(even, lot)[1:]])
    return solution(rows)


def beat_shares(chain, beat):
    """For each state the share by which the chain is there at this beat."""
    even = evened(chain)
    parts = even[1]
    below = sum(parts)
    for _ in range(beat):
        parts = gone_on(parts, even[2])
        below = below * sum(even[2][0])
    return shared([parts], [below])[0]


def stays(chain):
    """Whether the shares of the states are the same at all beats."""
    return beat_shares(chain, 1) == beat_shares(chain, 0)


def long_shares(chain):
    """For each state the limit of the mean of its shares at the first beats."""
    even = evened(chain)
    shares = [NOUGHT for _ in even[1]]
    for lot, come in zip(home_lots(even), home_shares(even)):
        for state, share in zip(lot, _settled_shares(even, lot)):
            shares[state] = multiplied(come, share)
    return tuple(shares)


def long_signs(chain):
    """For each sign how often it is told in the long run."""
    shares = long_shares(chain)
    return tuple([_told_share(chain, shares, sign) for sign in chain[0]])


def _told_share(chain, shares, sign):
    """The share by which this sign is told, if these are the shares of the states."""
    return all_added([multiplied(share, tell_share(chain, state, sign)) for state, share in enumerate(shares)])


def mean_return(chain, state):
    """The mean number of beats until the chain is at state again; None if it is in no home."""
    even = evened(chain)
    for lot in home_lots(even):
        if state in lot:
            return divided(ONE, _settled_shares(even, lot)[lot.index(state)])
    return None


def long_paper(chain):
    """A paper that shows that long_shares are right."""
    even = evened(chain)
    paper = _visits(even)
    # What is outside of homes is led into them first; within each home this is then levelled out to its long shares.
    rest = [subtracted(come, share) for come, share in zip(_entries(even, paper), long_shares(even))]
    for lot in home_lots(even):
        for state, worth in zip(lot[1:], _levelling(even, lot[1:], rest)):
            paper[state] = worth
    return tuple(paper)


def _levelling(even, states, rest):
    """What has to be at these states, if nothing is at the home's first one, to be by rest more than is led to them."""
    whole = sum(even[2][0])
    rows = []
    for state, row in zip(states, _balances(even, states)):
        above, below = rest[state]
        rows.append([number * below for number in row] + [above * whole])
    return solution(rows)


def long_holds(chain, value):
    """Whether value is a pair of the long shares of chain and of a paper for them."""
    many = len(chain[1])
    if not isinstance(value, tuple) or len(value) != 2:
        return False
    shares, paper = value
    if not _are_all(shares, many, is_share) or not _are_all(paper, many, is_fraction):
        return False
    even = evened(chain)
    if all_added(shares) != ONE or _led(even, shares) != shares:
        return False
    gaps = [subtracted(start_share(even, state), share) for state, share in enumerate(shares)]
    return gaps == [subtracted(worth, led) for worth, led in zip(paper, _led(even, paper))]


def _are_all(value, many, is_fit):
    """Whether value is a tuple of so many items, each of which is fit."""
    return isinstance(value, tuple) and len(value) == many and all([is_fit(item) for item in value])
