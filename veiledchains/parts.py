"""Sums over courses in whole numbers, place by place, for chains that are evened.

Even lines have one sum: so at each place all parts have one denominator, and only the end needs a common divisor.
"""

from veiledchains.errors import Never
from veiledchains.fractions import lowest
from veiledchains.views import GAP


def told_lines(even, view):
    """For each place of view, by state: the weight of what is seen there, 1 at a gap."""
    signs, start, _, tells = even
    lines = []
    for sign in view:
        if sign == GAP:
            lines.append([1 for _ in start])
        else:
            lines.append([line[signs.index(sign)] for line in tells])
    return lines


def told_sums(even, view):
    """For each place of view the sum that belongs to the weights of told_lines."""
    return [1 if sign == GAP else sum(even[3][0]) for sign in view]


def met(parts, line):
    """The parts, each multiplied by the weight at its place in line."""
    return [part * weight for part, weight in zip(parts, line)]


def gone_on(parts, steps):
    """The parts by the state at the next place, from those by the state here."""
    states = range(len(parts))
    return [sum([part * line[state] for part, line in zip(parts, steps)]) for state in states]


def ahead_parts(even, view):
    """For each place, by the state there: the sum over all courses up to it, the sign there told."""
    parts = even[1]
    table = []
    for line in told_lines(even, view):
        if table:
            parts = gone_on(table[-1], even[2])
        table.append(met(parts, line))
    return table


def last_parts(even, view):
    """By the state at the last place of view, the sum over all courses; by the first state for the empty view."""
    parts = even[1] if view == "" else ahead_parts(even, view)[-1]
    if sum(parts) == 0:
        raise Never()
    return parts


def next_parts(even, view):
    """By the state behind view, the sum over all courses."""
    parts = last_parts(even, view)
    return parts if view == "" else gone_on(parts, even[2])


def sums_ahead(even, view):
    """The denominators of ahead_parts, place by place."""
    below = sum(even[1])
    sums = []
    for told in told_sums(even, view):
        sums.append(below * told)
        below = below * told * sum(even[2][0])
    return sums


def whole(even, view):
    """The denominator of sums and products along the whole view."""
    return 1 if view == "" else sums_ahead(even, view)[-1]


def behind_parts(even, view):
    """For each place, by the state there: the sum over all ways on to the end of view."""
    parts = [1 for _ in even[1]]
    table = []
    for line in reversed(told_lines(even, view)):
        table.append(parts)
        told = met(parts, line)
        parts = [sum(met(told, weights)) for weights in even[2]]
    return table[::-1]


def sums_behind(even, view):
    """The denominators of behind_parts, place by place."""
    below = 1
    sums = []
    for told in reversed(told_sums(even, view)):
        sums.append(below)
        below = below * told * sum(even[2][0])
    return sums[::-1]


def shared(table, sums):
    """The fractions of a table of parts, whose lines have these denominators."""
    return tuple([tuple([lowest(part, below) for part in line]) for line, below in zip(table, sums)])
