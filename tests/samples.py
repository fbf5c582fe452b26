"""Chains, views and reference reckonings for the tests."""

import fractions
import itertools
import math
import random

WORN = ("ab", (1, 1), ((1, 1), (0, 1)), ((1, 0), (1, 3)))
FAIR = ("ab", (1, 1), ((2, 1), (1, 3)), ((3, 1), (1, 1)))
RING = ("ab", (1, 0), ((0, 1), (1, 1)), ((1, 0), (1, 1)))
ONE = ("z", (7,), ((2,),), ((1,),))
GREAT = 10 ** 399
TWIN = ("ab", (2, 1, 1), ((2, 1, 1), (0, 1, 1), (0, 0, 1)), ((1, 0), (1, 3), (1, 3)))
EVEN = ("ab", (1, 1), ((1, 1), (1, 1)), ((3, 1), (3, 1)))
STILL = ("ab", (1,), ((1,),), ((1, 0),))
HOP = ("ab", (1, 1), ((1, 1), (1, 0)), ((1, 0), (0, 1)))
SIX = ("abcde", (1,) * 6, ((1, 2, 3, 4, 5, 6),) * 6, ((5, 4, 3, 2, 1),) * 6)
CIRCLE = ("ab", (1, 0), ((0, 1), (1, 0)), ((1, 0), (0, 1)))
FORK = ("ab", (1, 0, 0), ((1, 1, 2), (0, 1, 0), (0, 0, 1)), ((1, 1), (1, 0), (0, 1)))
# From 0 to 1 or 2; 1 goes back to 0 or home to 3; 2 goes home to 4 or to 5.
PARTING = ("a", (1, 0, 0, 0, 0, 0), (
    (0, 1, 1, 0, 0, 0), (1, 0, 0, 2, 0, 0), (0, 0, 0, 0, 1, 3), (0, 0, 0, 1, 0, 0), (0, 0, 0, 0, 1, 0), (0, 0, 0, 0, 0, 1),
), ((1,),) * 6)
# A heap of views of chains that tell a and b.
TWO = (("a", 1), ("b", 1))


def some_line(source, width, figures):
    """Some weights are 0, but not all."""
    line = [source.choice((0, 1, 1)) * source.randrange(10 ** (figures - 1), 10 ** figures) for _ in range(width)]
    line[source.randrange(width)] += 10 ** (figures - 1)
    return tuple(min(weight, 10 ** figures - 1) for weight in line)


def some_chain(source, states, signs, figures=1):
    return (
        "".join(sorted(source.sample("abcdefghijklmnopqrstuvwxyz", signs))),
        some_line(source, states, figures),
        tuple(some_line(source, states, figures) for _ in range(states)),
        tuple(some_line(source, signs, figures) for _ in range(states)),
    )


def some_chains(figures=1):
    """Of each number of states with each number of signs."""
    source = random.Random(figures)
    return [some_chain(source, states, signs, figures) for states in range(1, 7) for signs in range(1, 6)]


def small_chains():
    """Those whose short views and their courses can be gone through."""
    drawn = [chain for chain in some_chains() if len(chain[1]) <= 3 and len(chain[0]) <= 3]
    return [WORN, FAIR, RING, ONE, TWIN, EVEN, STILL, HOP] + drawn


def some_machine(source, signs, stands):
    """Some of its stands may never be come to, and ends may be none or all of them."""
    steps = tuple(tuple(source.randrange(stands) for _ in signs) for _ in range(stands))
    share = source.choice((0, 1, 2, 2, 2, 3, 4))
    ends = tuple(stand for stand in range(stands) if source.randrange(4) < share)
    return (signs, source.randrange(stands), steps, ends)


def walked(machine, row):
    """Whether a machine takes a row."""
    signs, stand, steps, ends = machine
    for sign in row:
        stand = dict(zip(signs, steps[stand]))[sign]
    return any(stand == end for end in ends)


def rows_to(signs, longest):
    """All rows up to a length, shorter ones first."""
    for length in range(longest + 1):
        for row in itertools.product(signs, repeat=length):
            yield "".join(row)


def multiplied(chain):
    """The same shares, with each line multiplied by another factor."""
    factors = itertools.count(2)

    def by_next(line):
        factor = next(factors)
        return tuple(factor * weight for weight in line)

    signs, start, steps, tells = chain
    return (signs, by_next(start), tuple(map(by_next, steps)), tuple(map(by_next, tells)))


def parted(chain, state):
    """The same chain with one state parted in two that tell alike."""
    signs, start, steps, tells = chain

    def line_of(weights):
        doubled = [3 * weight for weight in weights]
        doubled[state:state + 1] = [2 * weights[state], weights[state]]
        return tuple(doubled)

    lines = [line_of(line) for line in steps]
    return (signs, line_of(start), tuple(lines[:state + 1] + lines[state:]), tells[:state + 1] + tells[state:])


def moved(chain, order):
    """The same chain with its states in another order."""
    signs, start, steps, tells = chain
    return (signs, tuple(start[at] for at in order), tuple(tuple(steps[at][to] for to in order) for at in order),
            tuple(tells[at] for at in order))


def split(source, chain, sizes):
    """A chain whose state k is so many states that tell alike, and go alike to those of each other one. And its parts.

    How the states of a part share what comes to them is another thing at each line.
    """
    signs, start, steps, tells = chain
    owners = [state for state, size in enumerate(sizes) for _ in range(size)]
    source.shuffle(owners)
    places = {state: [at for at, owner in enumerate(owners) if owner == state] for state in owners}

    def spread(weights):
        line = [0] * len(owners)
        drawn = {state: some_line(source, len(here), 1) for state, here in places.items()}
        common = math.lcm(*[sum(parts) for parts in drawn.values()])
        for state, here in places.items():
            for at, part_ in zip(here, drawn[state]):
                line[at] = weights[state] * part_ * (common // sum(drawn[state]))
        return tuple(line)

    lines = tuple(spread(steps[owner]) for owner in owners)
    made = (signs, spread(start), lines, tuple(tells[owner] for owner in owners))
    return made, tuple(sorted(tuple(here) for here in places.values()))


def with_idle_state(chain):
    """The same chain with a state behind all others that never comes."""
    signs, start, steps, tells = chain
    wide = tuple(line + (0,) for line in steps)
    return (signs, start + (0,), wide + ((1,) * (len(start) + 1),), tells + ((1,) * len(signs),))


def pair(worth):
    return (worth.numerator, worth.denominator)


def ratio(share):
    return fractions.Fraction(*share)


def part(line, place):
    return fractions.Fraction(line[place], sum(line))


def told_part(chain, state, sign):
    """The share of a sign at a state, 1 for a gap."""
    return fractions.Fraction(1) if sign == "." else part(chain[3][state], chain[0].index(sign))


def weighed(chain, view, course):
    """The chance of a course, as a Fraction."""
    _, start, steps, _ = chain
    worth = fractions.Fraction(1)
    for place, state in enumerate(course):
        worth *= part(steps[course[place - 1]], state) if place else part(start, state)
        worth *= told_part(chain, state, view[place])
    return worth


def courses(chain, view):
    return list(itertools.product(range(len(chain[1])), repeat=len(view)))


def summed(chain, view):
    """The chance of a view, as a Fraction, from its end to its beginning."""
    _, start, steps, _ = chain
    states = range(len(start))
    behind = [fractions.Fraction(1) for _ in states]
    for place in reversed(range(len(view))):
        here = []
        for state in states:
            here.append(told_part(chain, state, view[place]) * behind[state])
        lines = steps if place else [start]
        behind = [sum(part(line, state) * here[state] for state in states) for line in lines]
    return behind[0]


def ahead_worths(chain, view):
    """For each place, by state: the chances up to it, as Fractions, from place to place."""
    _, start, steps, _ = chain
    states = range(len(start))
    table = []
    for sign in view:
        if table:
            come = [sum(worth * part(line, state) for worth, line in zip(table[-1], steps)) for state in states]
        else:
            come = [part(start, state) for state in states]
        table.append([come[state] * told_part(chain, state, sign) for state in states])
    return table


def behind_worths(chain, view):
    """For each place, by state: the shares of the ways on, as Fractions, from the last place on."""
    states = range(len(chain[1]))
    table = []
    for place in reversed(range(len(view))):
        if table:
            told = [told_part(chain, state, view[place + 1]) * table[-1][state] for state in states]
            table.append([sum(part(line, state) * told[state] for state in states) for line in chain[2]])
        else:
            table.append([fractions.Fraction(1) for _ in states])
    return table[::-1]


def short_views(chain, longest):
    for length in range(longest + 1):
        for signs in itertools.product(chain[0] + ".", repeat=length):
            yield "".join(signs)


def some_view(source, chain, length, gaps=1):
    return "".join(source.choice(chain[0] + "." * gaps) for _ in range(length))


def some_heap(source, chain, views, signs):
    """So many views, with at most so many signs each, of at most 120 signs together."""
    heap = []
    left = 120
    for _ in range(views):
        view = some_view(source, chain, source.randrange(min(signs, left) + 1))
        times = source.randrange(1, min(20, left // len(view) if view else 20) + 1)
        left -= times * len(view)
        heap.append((view, times))
    return tuple(heap)


def solved(equations):
    """The solution of linear equations, as Fractions; each is a list of factors and behind them their sum."""
    rows = [[fractions.Fraction(number) for number in row] for row in equations]
    for column in range(len(rows)):
        lead = next(at for at in range(column, len(rows)) if rows[at][column])
        rows[column], rows[lead] = rows[lead], rows[column]
        rows[column] = [number / rows[column][column] for number in rows[column]]
        for at, row in enumerate(rows):
            if at != column and row[column]:
                rows[at] = [one - row[column] * other for one, other in zip(row, rows[column])]
    return [row[-1] for row in rows]


def told_pairs(chain, machine):
    """For each pair of a state and a stand: the pairs behind one sign, with their shares as Fractions."""
    signs, _, steps, tells = chain
    states = range(len(chain[1]))
    led = {}
    for state, stand in itertools.product(states, range(len(machine[2]))):
        led[state, stand] = [
            ((other, machine[2][stand][at]), part(tells[state], at) * part(steps[state], other))
            for at in range(len(signs)) for other in states if tells[state][at] and steps[state][other]]
    return led


def ever_and_mean(chain, machine):
    """The share of what is taken some time, and the mean number of signs (None where the share is below 1)."""
    ends, led = machine[3], told_pairs(chain, machine)
    begun = {(state, machine[1]): part(chain[1], state) for state in range(len(chain[1])) if chain[1][state]}
    reached = list(begun)
    for pair_ in reached:
        if pair_[1] not in ends:
            reached += [other for other in dict(led[pair_]) if other not in reached]
    hope = {pair_ for pair_ in led if pair_[1] in ends}
    for _ in led:
        hope |= {pair_ for pair_ in led if any(other in hope for other, _ in led[pair_])}

    def mean_of(told, more):
        rows = []
        for pair_ in told:
            row = [fractions.Fraction(int(other == pair_)) for other in told]
            for other, share in led[pair_]:
                if other in told:
                    row[told.index(other)] -= share
            rows.append(row + [more(pair_)])
        found = dict(zip(told, solved(rows)))
        return lambda pair_: found.get(pair_, fractions.Fraction(0))

    inner = [pair_ for pair_ in reached if pair_ in hope and pair_[1] not in ends]
    worth = mean_of(inner, lambda pair_: sum(share for other, share in led[pair_] if other[1] in ends))
    ever = sum(share * (1 if pair_[1] in ends else worth(pair_)) for pair_, share in begun.items())
    if ever != 1:
        return ever, None
    worth = mean_of(inner, lambda _: fractions.Fraction(1))
    return ever, sum(share * worth(pair_) for pair_, share in begun.items())
