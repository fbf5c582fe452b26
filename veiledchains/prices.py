"""Prices that bound the chances of all courses of a view."""

from veiledchains.errors import Unfit
from veiledchains.evened import evened
from veiledchains.fractions import compared, lowest
from veiledchains.kinds import is_fraction
from veiledchains.parts import met, shared, sums_behind, told_lines, told_sums
from veiledchains.ways import best_behind


def prices(chain, view):
    """The least prices of view: their bound is the chance of its best course."""
    even = evened(chain)
    return shared(best_behind(even, told_lines(even, view)), sums_behind(even, view))


def prices_bound(chain, view, value):
    """The bound of these prices."""
    even = evened(chain)
    if not _are_tables(even, view, value) or not _are_enough(even, view, value):
        raise Unfit()
    if view == "":
        return (1, 1)
    below = sum(even[1]) * told_sums(even, view)[0]
    bound = (0, 1)
    for weight, price in zip(met(even[1], told_lines(even, view)[0]), value[0]):
        worth = lowest(weight * price[0], below * price[1])
        if compared(worth, bound) > 0:
            bound = worth
    return bound


def _are_tables(even, view, value):
    """Whether value has a fraction from 0 on for each place and state, from 1 on at the last place."""
    if not isinstance(value, tuple) or len(value) != len(view):
        return False
    for line in value:
        if not isinstance(line, tuple) or len(line) != len(even[1]):
            return False
        if not all([is_fraction(price) and price[0] >= 0 for price in line]):
            return False
    return all([price[0] >= price[1] for line in value[-1:] for price in line])


def _are_enough(even, view, table):
    """Whether each price ahead of the last place is at least what is asked there."""
    told = told_lines(even, view)
    sums = told_sums(even, view)
    for place in range(1, len(view)):
        below = sum(even[2][0]) * sums[place]
        for price, line in zip(table[place - 1], even[2]):
            weights = met(line, told[place])
            if not all([_is_enough(price, weight, below, other) for weight, other in zip(weights, table[place])]):
                return False
    return True


def _is_enough(price, weight, below, other):
    """Whether price is at least weight / below * other."""
    return price[0] * below * other[1] >= weight * other[0] * price[1]
