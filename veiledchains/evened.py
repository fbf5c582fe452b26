"""Chains with other weights of the same shares, so that sums along a view stay whole numbers."""

from math import lcm

from veiledchains.chains import plain


def evened(chain):
    """A chain with the shares of chain: all lines of its steps have one sum, those of its tells too."""
    signs, start, steps, tells = plain(chain)
    return (signs, start, _evened_lines(steps), _evened_lines(tells))


def _evened_lines(lines):
    common = 1
    for line in lines:
        common = lcm(common, sum(line))
    return tuple([multiplied_line(line, common // sum(line)) for line in lines])


def multiplied_line(line, factor):
    """The line with each weight multiplied by this factor."""
    return tuple([weight * factor for weight in line])
