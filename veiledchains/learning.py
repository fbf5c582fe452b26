"""Chains learnt from rows, seen with their courses or without them."""

from math import lcm

from veiledchains.bounds import MAX_FIGURES
from veiledchains.chains import plain
from veiledchains.courses import course_chance, possible_count
from veiledchains.errors import Never, TooMany
from veiledchains.evened import evened, multiplied_line
from veiledchains.figures import is_great
from veiledchains.fractions import all_multiplied
from veiledchains.heaps import heap_chance
from veiledchains.parts import ahead_parts, behind_parts, met, shared, told_lines
from veiledchains.views import GAP


def counts(chain, heap):
    """How often each thing is to be expected, given the heap: fractions, formed as start, steps and tells."""
    lines, below = _heap_counts(chain, heap)
    return _formed(chain, shared(lines, [below for _ in lines]))


def _formed(chain, lines):
    """The triple of one line for start, those for steps and those for tells."""
    states = len(chain[1])
    return (lines[0], lines[1:1 + states], lines[1 + states:])


def _lines_of(chain):
    """All lines of chain, one behind another: that of start, those of steps and those of tells."""
    _, start, steps, tells = chain
    return (start,) + steps + tells


def _heap_counts(chain, heap):
    """The counts as whole numbers, line by line, and the denominator of all of them."""
    _check_possible(chain, heap)
    even = evened(chain)
    lines = [multiplied_line(line, 0) for line in _lines_of(chain)]
    below = 1
    for view, times in heap:
        if view != "":
            more, whole = _view_counts(even, view)
            common = lcm(below, whole)
            lines = [_summed(line, common // below, other, common // whole * times) for line, other in zip(lines, more)]
            below = common
    return (lines, below)


def _check_possible(chain, heap):
    if any([possible_count(chain, view) == 0 for view, _ in heap]):
        raise Never()


def _summed(line, factor, other, times):
    """The sums of both lines, multiplied by their factors."""
    return tuple([one * factor + two * times for one, two in zip(line, other)])


def _view_counts(even, view):
    """The counts of one view that came once, line by line, and their denominator."""
    ahead = ahead_parts(even, view)
    whole = sum(ahead[-1])
    behind = behind_parts(even, view)
    through = [met(one, other) for one, other in zip(ahead, behind)]
    onward = [met(parts, line) for parts, line in zip(behind, told_lines(even, view))]
    # By the sum of a line in tells all counts become whole, those at gaps too.
    told = sum(even[3][0])
    lines = [multiplied_line(through[0], told)]
    for state, weights in enumerate(even[2]):
        gone = _went([parts[state] for parts in ahead], onward[1:], len(weights))
        lines.append(multiplied_line(met(gone, weights), told))
    for state, weights in enumerate(even[3]):
        lines.append(_tolds(even[0], view, [parts[state] for parts in through], weights))
    return (lines, whole * told)


def _went(parts, onward, states):
    """By the next state: the sum of all ways from one state to it, but for the step between."""
    return [sum([part * ways[state] for part, ways in zip(parts, onward)]) for state in range(states)]


def _tolds(signs, view, parts, weights):
    """By the sign: how much of the parts, which stand in one state place by place, belongs to it."""
    unseen = sum([part for seen, part in zip(view, parts) if seen == GAP])
    line = []
    for sign, weight in zip(signs, weights):
        here = sum([part for seen, part in zip(view, parts) if seen == sign])
        line.append(here * sum(weights) + unseen * weight)
    return line


def learned(chain, heap):
    """The plain chain whose lines are in proportion to the counts of heap."""
    return _in_proportion(chain, _heap_counts(chain, heap)[0])


def _in_proportion(chain, lines):
    """The plain chain with these lines, but for those of noughts alone, which stay as chain has them."""
    kept = tuple([line if sum(line) > 0 else old for line, old in zip(lines, _lines_of(chain))])
    return plain((chain[0],) + _formed(chain, kept))


def rests(chain, heap):
    """Whether the chain learnt from heap has the shares of chain."""
    return learned(chain, heap) == plain(chain)


def learned_in_figures(chain, heap):
    """The chain learnt from heap, if neither it nor chain has a weight of too many figures."""
    _check_possible(chain, heap)
    _check_figures(chain)
    found = learned(chain, heap)
    _check_figures(found)
    return found


def _check_figures(chain):
    if any([is_great(weight) for line in _lines_of(chain) for weight in line]):
        raise TooMany(MAX_FIGURES)


def led(chain, heap, turns):
    """The chances of heap by chain, by what is learnt from it, and so on, turn by turn."""
    _check_possible(chain, heap)
    _check_figures(chain)
    chains = [chain]
    for _ in range(turns):
        chains.append(learned_in_figures(chains[-1], heap))
    return tuple([heap_chance(item, heap) for item in chains])


def counted(chain, pairs):
    """The plain chain whose lines are in proportion to how often each thing happened in these rows and courses."""
    lines = [[0 for _ in line] for line in _lines_of(chain)]
    start, steps, tells = _formed(chain, lines)
    for row, course in pairs:
        line = start
        for sign, state in zip(row, course):
            line[state] += 1
            tells[state][chain[0].index(sign)] += 1
            line = steps[state]
    return _in_proportion(chain, lines)


def pairs_chance(chain, pairs):
    """The product of the chances of these rows with their courses."""
    return all_multiplied([course_chance(chain, row, course) for row, course in pairs])
