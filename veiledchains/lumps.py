"""States put together: parts of a chain, each of which can become one state."""

from veiledchains.chains import plain
from veiledchains.evened import evened
from veiledchains.kinds import ascends, is_whole


def lump_error(chain, value):
    """None if value is parts of chain that keep, otherwise what is first wrong with it."""
    if not _are_parts(len(chain[1]), value):
        return "form"
    # Lines of one sum: there shares are alike just where weights are.
    even = evened(chain)
    steps = even[2]
    tells = even[3]
    for part, states in enumerate(value):
        if not _are_alike([tells[state] for state in states]):
            return ("tells", part)
    for part, states in enumerate(value):
        for other, goal in enumerate(value):
            if not _are_alike([_weight_to(steps[state], goal) for state in states]):
                return ("steps", part, other)
    return None


def _are_parts(states, value):
    """Whether value is parts of a chain with so many states, be they kept or not."""
    if not isinstance(value, tuple) or not all([_is_part(item) for item in value]):
        return False
    if not ascends([part[0] for part in value]):
        return False
    return sorted([state for part in value for state in part]) == list(range(states))


def _is_part(value):
    if not isinstance(value, tuple) or len(value) == 0:
        return False
    return all([is_whole(item) for item in value]) and ascends(value)


def _are_alike(items):
    return all([item == items[0] for item in items])


def _weight_to(line, part):
    """The weight by which this line leads to the states of part."""
    return sum([line[state] for state in part])


def _joined(line, parts):
    """The line with one weight for each part."""
    return tuple([_weight_to(line, part) for part in parts])


def lumped(chain, parts):
    """The plain chain with one state for each of these parts, which keep."""
    signs, start, steps, tells = chain
    firsts = [part[0] for part in parts]
    lines = tuple([_joined(steps[state], parts) for state in firsts])
    return plain((signs, _joined(start, parts), lines, tuple([tells[state] for state in firsts])))


def coarsest(chain):
    """The fewest parts of chain that keep."""
    even = evened(chain)
    steps = even[2]
    tells = even[3]
    parts = _parts_by(tells)
    many = 0
    # Parts that tell alike are parted further by where they go, until nothing more is parted.
    while many < len(parts):
        many = len(parts)
        parts = _parts_by([told + _joined(line, parts) for told, line in zip(tells, steps)])
    return parts


def _parts_by(marks):
    """The parts in which those states stand together that have the same mark."""
    parts = {}
    for state, mark in enumerate(marks):
        parts.setdefault(mark, []).append(state)
    return tuple([tuple(part) for part in parts.values()])
