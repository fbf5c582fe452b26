"""The courses behind a view, and their chances."""

from veiledchains.errors import NoRank
from veiledchains.evened import evened
from veiledchains.fractions import lowest
from veiledchains.kinds import is_whole
from veiledchains.parts import ahead_parts, whole
from veiledchains.views import GAP


def course_chance(chain, view, course):
    """The chance of this one course of view."""
    signs, start, steps, tells = chain
    line = start
    above = 1
    below = 1
    for sign, state in zip(view, course):
        above = above * line[state]
        below = below * sum(line)
        if sign != GAP:
            above = above * tells[state][signs.index(sign)]
            below = below * sum(tells[state])
        line = steps[state]
    return lowest(above, below)


def chance(chain, view):
    """The sum of the chances of all courses of view."""
    even = evened(chain)
    if view == "":
        return (1, 1)
    return lowest(sum(ahead_parts(even, view)[-1]), whole(even, view))


def possible_count(chain, view):
    """How many courses of view are possible."""
    if view == "":
        return 1
    return sum(_open_counts(chain[1], _counts_on(chain, view)[0]))


def course_at(chain, view, number):
    """The possible course of view with this number, ascending."""
    if not is_whole(number) or not 0 <= number < possible_count(chain, view):
        raise NoRank(number)
    left = number
    course = []
    line = chain[1]
    for counts in _counts_on(chain, view):
        state = 0
        opened = _open_counts(line, counts)
        while left >= opened[state]:
            left = left - opened[state]
            state = state + 1
        course.append(state)
        line = chain[2][state]
    return tuple(course)


def _counts_on(chain, view):
    """For each place, by the state there: how many possible ways there are from it on to the end of view."""
    states = range(len(chain[1]))
    table = []
    for sign in reversed(view):
        if table:
            counts = [sum(_open_counts(chain[2][state], table[-1])) for state in states]
        else:
            counts = [1 for _ in states]
        table.append([counts[state] if _can_tell(chain, state, sign) else 0 for state in states])
    return table[::-1]


def _open_counts(line, counts):
    """These counts, with 0 for the states to which this line of weights never leads."""
    return [count if weight > 0 else 0 for weight, count in zip(line, counts)]


def _can_tell(chain, state, sign):
    return sign == GAP or chain[3][state][chain[0].index(sign)] > 0
