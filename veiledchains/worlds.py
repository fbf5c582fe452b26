"""Chains whose rows a machine looks at."""

from veiledchains.best import best_course
from veiledchains.chains import plain, start_share
from veiledchains.equations import solution
from veiledchains.errors import Never, Unfit
from veiledchains.evened import evened
from veiledchains.fractions import all_added, lowest, multiplied
from veiledchains.parts import gone_on, met, shared, told_lines
from veiledchains.stands import hopeful_pairs, is_sure, led_pairs, reached_pairs, whole_weight
from veiledchains.views import GAP


def _check_signs(chain, machine):
    if chain[0] != machine[0]:
        raise Unfit()


def _begun(even, machine):
    """By stand and state: the parts with which the chain begins there."""
    return [even[1] if stand == machine[1] else [0 for _ in even[1]] for stand in range(len(machine[2]))]


def _told_on(even, machine, table, seen):
    """The table of parts, by stand and state, behind a sign that is told: any one if a gap is seen."""
    told = [[0 for _ in even[1]] for _ in machine[2]]
    for at in _places(even, seen):
        weights = told_lines(even, even[0][at])[0]
        for line, parts in zip(machine[2], table):
            told[line[at]] = [one + other for one, other in zip(told[line[at]], met(parts, weights))]
    return told


def _places(even, seen):
    """The places, among the signs, of those that may stand where this is seen."""
    return [at for at, sign in enumerate(even[0]) if seen in (sign, GAP)]


def _gone(even, table):
    """The table of parts, by stand and state, behind a step of the chain."""
    return [gone_on(parts, even[2]) for parts in table]


def _beat_sum(even):
    """The sum of all parts that one part gives way to, by a sign and a step."""
    return sum(even[3][0]) * sum(even[2][0])


def _ended(table, machine):
    return sum([sum(table[stand]) for stand in machine[3]])


def taken_share(chain, machine, length):
    """The share of the rows of this length that machine takes."""
    _check_signs(chain, machine)
    even = evened(chain)
    table = _begun(even, machine)
    below = sum(even[1])
    for _ in range(length):
        table = _gone(even, _told_on(even, machine, table, GAP))
        below = below * _beat_sum(even)
    return lowest(_ended(table, machine), below)


def first_taken(chain, machine, length):
    """For each length up to this one the share of rows that are taken, while no shorter beginning is."""
    _check_signs(chain, machine)
    even = evened(chain)
    table = _begun(even, machine)
    below = sum(even[1])
    shares = [lowest(_ended(table, machine), below)]
    for _ in range(length):
        open_parts = [[0 for _ in parts] if at in machine[3] else parts for at, parts in enumerate(table)]
        table = _gone(even, _told_on(even, machine, open_parts, GAP))
        below = below * _beat_sum(even)
        shares.append(lowest(_ended(table, machine), below))
    return tuple(shares)


def taken_states(chain, machine, view):
    """For each place of view the share of each state, among all taken stories."""
    _check_signs(chain, machine)
    even = evened(chain)
    table = _begun(even, machine)
    lines = []
    for place, ways in enumerate(_behind(even, machine, view, _total)):
        if place > 0:
            table = _gone(even, table)
        table = _told_on(even, machine, table, view[place])
        through = [met(parts, worths) for parts, worths in zip(table, ways)]
        lines.append([sum(column) for column in zip(*through)])
    if not _can_be_taken(machine, view, lines):
        raise Never()
    return shared(lines, [sum(line) for line in lines])


def _can_be_taken(machine, view, lines):
    """Whether a taken story has a chance above 0, if lines has the parts of all, place by place."""
    if view == "":
        return machine[1] in machine[3]
    return sum(lines[0]) > 0


def _total(worths):
    return sum(worths)


def _greatest(worths):
    return max(worths)


def _behind(even, machine, view, joined):
    """For each place, by stand behind the sign there and by state there: the joined worth of all taken ways on."""
    ways = [[1 if stand in machine[3] else 0 for _ in even[1]] for stand in range(len(machine[2]))]
    table = []
    for seen in reversed(view):
        table.append(ways)
        told = _told_back(even, machine, ways, seen, joined)
        ways = [[joined(met(weights, worths)) for weights in even[2]] for worths in told]
    return table[::-1]


def _told_back(even, machine, ways, seen, joined):
    """By stand and state ahead of a sign: the joined worth of the ways on from behind it."""
    places = _places(even, seen)
    return [
        [joined([weights[at] * ways[line[at]][state] for at in places]) for state, weights in enumerate(even[3])]
        for line in machine[2]
    ]


def best_taken(chain, machine, view):
    """The least of the likeliest taken stories: its row, its course and its chance."""
    _check_signs(chain, machine)
    even = evened(chain)
    stand = machine[1]
    if view == "" and stand not in machine[3]:
        raise Never()
    parts = even[1]
    steps = even[2]
    row = ""
    for seen, ways in zip(view, _behind(even, machine, view, _greatest)):
        places = _places(even, seen)
        told = [met(parts, told_lines(even, even[0][at])[0]) for at in places]
        worths = [max(met(line, ways[machine[2][stand][at]])) for at, line in zip(places, told)]
        if max(worths) == 0:
            raise Never()
        # A row is led on by the least sign that keeps the greatest chance: so no lesser row has it.
        least = worths.index(max(worths))
        row = row + even[0][places[least]]
        stand = machine[2][stand][places[least]]
        parts = [max(met(told[least], column)) for column in zip(*steps)]
    course, share = best_course(chain, row)
    return (row, course, share)


def ever_share(chain, machine):
    """The share with which some beginning of what the chain tells is taken."""
    _check_signs(chain, machine)
    if is_sure(chain, machine):
        return (1, 1)
    bare = plain(chain)
    pairs = hopeful_pairs(bare, machine, reached_pairs(bare, machine))
    ended = [_ending_weight(bare, machine, pair) for pair in pairs]
    return _begun_mean(bare, machine, pairs, solution(_equations(bare, machine, pairs, ended)))


def _ending_weight(chain, machine, pair):
    """The weight by which one sign leads from this pair to a stand of ends."""
    return sum([weight for other, weight in led_pairs(chain, machine, pair).items() if other[1] in machine[3]])


def _equations(chain, machine, pairs, added_parts):
    """For each pair: what it has is what is added there, and by their weights what the pairs behind it have."""
    rows = []
    for pair, more in zip(pairs, added_parts):
        weights = led_pairs(chain, machine, pair)
        row = [-weights.get(other, 0) for other in pairs]
        row[pairs.index(pair)] += whole_weight(chain, pair)
        rows.append(row + [more])
    return rows


def _begun_mean(chain, machine, pairs, worths):
    """The mean of what the pairs have in which the chain begins; pairs that are not told have nought."""
    begun = [(pair[0], worth) for pair, worth in zip(pairs, worths) if pair[1] == machine[1]]
    return all_added([multiplied(start_share(chain, state), worth) for state, worth in begun])


def mean_taken(chain, machine):
    """The mean number of signs of the shortest beginning that is taken; None if some share never has one."""
    _check_signs(chain, machine)
    if not is_sure(chain, machine):
        return None
    bare = plain(chain)
    pairs = reached_pairs(bare, machine)
    rows = _equations(bare, machine, pairs, [whole_weight(bare, pair) for pair in pairs])
    return _begun_mean(bare, machine, pairs, solution(rows))
