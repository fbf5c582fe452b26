"""What a view tells of its places: sums along it and back."""

from veiledchains.errors import Never
from veiledchains.evened import evened
from veiledchains.fractions import lowest
from veiledchains.parts import ahead_parts, behind_parts, met, next_parts, shared, sums_ahead, sums_behind, told_lines


def ahead_table(chain, view):
    """For each place, by the state there: the chances of all courses up to it."""
    even = evened(chain)
    return shared(ahead_parts(even, view), sums_ahead(even, view))


def behind_table(chain, view):
    """For each place, by the state there: the shares of all ways on to the end of view."""
    even = evened(chain)
    return shared(behind_parts(even, view), sums_behind(even, view))


def states_told(chain, view):
    """For each place the share of each state, after all that is seen."""
    table = _through_parts(evened(chain), view)
    return shared(table, [sum(line) for line in table])


def likeliest_states(chain, view):
    """For each place the least of its likeliest states."""
    return tuple([line.index(max(line)) for line in _through_parts(evened(chain), view)])


def _through_parts(even, view):
    """For each place, by the state there: the sum over all courses of view. All lines have the view's sum."""
    ahead = ahead_parts(even, view)
    if ahead and sum(ahead[-1]) == 0:
        raise Never()
    return [met(one, other) for one, other in zip(ahead, behind_parts(even, view))]


def pairs_told(chain, view):
    """For each place but the last one the share of each two states there and at the next place."""
    even = evened(chain)
    ahead = ahead_parts(even, view)
    if ahead and sum(ahead[-1]) == 0:
        raise Never()
    behind = [met(parts, line) for parts, line in zip(behind_parts(even, view), told_lines(even, view))]
    tables = []
    for parts, ways in zip(ahead, behind[1:]):
        pairs = [met(line, [part * way for way in ways]) for part, line in zip(parts, even[2])]
        tables.append(shared(pairs, [sum(ahead[-1]) for _ in pairs]))
    return tuple(tables)


def told_ahead(chain, view, sign):
    """The share by which the next sign behind view is this one."""
    even = evened(chain)
    parts = next_parts(even, view)
    return lowest(sum(met(parts, told_lines(even, sign)[0])), sum(parts) * sum(even[3][0]))
