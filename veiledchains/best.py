"""The best courses of a view."""

from veiledchains.bounds import MAX_RANK
from veiledchains.errors import Never, NoRank
from veiledchains.evened import evened
from veiledchains.fractions import lowest
from veiledchains.kinds import is_whole
from veiledchains.parts import met, told_lines, whole
from veiledchains.ways import all_ways, best_behind


def best_course(chain, view):
    """The least of the best courses, and its chance."""
    even = evened(chain)
    return _best_passing(even, view, told_lines(even, view))


def best_through(chain, view, place, state):
    """The least of the best courses with this state at this place, and its chance."""
    even = evened(chain)
    told = told_lines(even, view)
    weights = told[place]
    told[place] = [weights[at] if at == state else 0 for at in range(len(weights))]
    return _best_passing(even, view, told)


def _best_passing(even, view, told):
    """The least of the best courses along told, where noughts let nothing pass, and its chance."""
    line = even[1]
    worth = 1
    course = []
    for passed in _passed_worths(even, told):
        state = _best_states(line, passed)[0]
        worth = worth * line[state]
        course.append(state)
        line = even[2][state]
    for weights, state in zip(told, course):
        worth = worth * weights[state]
    return (tuple(course), lowest(worth, whole(even, view)))


def _passed_worths(even, told):
    """For each place, by the state there: the greatest weight of a way on, what is seen there told. None is Never."""
    table = [met(worths, weights) for worths, weights in zip(best_behind(even, told), told)]
    if table and max(met(even[1], table[0])) == 0:
        raise Never()
    return table


def _best_states(line, passed):
    """The states to which a best way goes on by this line of weights, ascending."""
    worths = met(line, passed)
    best = max(worths)
    return [state for state, worth in enumerate(worths) if worth == best]


def best_count(chain, view):
    """How many courses have the greatest chance."""
    even = evened(chain)
    counts = [1 for _ in even[1]]
    table = _passed_worths(even, told_lines(even, view))
    if not table:
        return 1
    for passed in reversed(table[1:]):
        counts = [_best_ways(line, passed, counts) for line in even[2]]
    return _best_ways(even[1], table[0], counts)


def _best_ways(line, passed, counts):
    return sum([counts[state] for state in _best_states(line, passed)])


def ranked(chain, view, number):
    """The possible course with this number in order, the best ones first, and its chance."""
    if not is_whole(number) or not 0 <= number < MAX_RANK:
        raise NoRank(number)
    even = evened(chain)
    way = all_ways(even, told_lines(even, view)).numbered(number)
    if way is None:
        raise NoRank(number)
    return (way[1], lowest(-way[0], whole(even, view)))
