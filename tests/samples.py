"""Chains, views and reference reckonings for the tests."""

import fractions
import itertools
import random

WORN = ("ab", (1, 1), ((1, 1), (0, 1)), ((1, 0), (1, 3)))
FAIR = ("ab", (1, 1), ((2, 1), (1, 3)), ((3, 1), (1, 1)))
RING = ("ab", (1, 0), ((0, 1), (1, 1)), ((1, 0), (1, 1)))
ONE = ("z", (7,), ((2,),), ((1,),))
GREAT = 10 ** 399
TWIN = ("ab", (2, 1, 1), ((2, 1, 1), (0, 1, 1), (0, 0, 1)), ((1, 0), (1, 3), (1, 3)))
EVEN = ("ab", (1, 1), ((1, 1), (1, 1)), ((3, 1), (3, 1)))
STILL = ("ab", (1,), ((1,),), ((1, 0),))
HOP = ("ab", (1, 1), ((1, 1), (1, 0)), ((1, 0), (0, 1)))
SIX = ("abcde", (1,) * 6, ((1, 2, 3, 4, 5, 6),) * 6, ((5, 4, 3, 2, 1),) * 6)


def some_line(source, width, figures):
    """Some weights are 0, but not all."""
    line = [source.choice((0, 1, 1)) * source.randrange(10 ** (figures - 1), 10 ** figures) for _ in range(width)]
    line[source.randrange(width)] += 10 ** (figures - 1)
    return tuple(min(weight, 10 ** figures - 1) for weight in line)


def some_chain(source, states, signs, figures=1):
    return (
        "".join(sorted(source.sample("abcdefghijklmnopqrstuvwxyz", signs))),
        some_line(source, states, figures),
        tuple(some_line(source, states, figures) for _ in range(states)),
        tuple(some_line(source, signs, figures) for _ in range(states)),
    )


def some_chains(figures=1):
    """Of each number of states with each number of signs."""
    source = random.Random(figures)
    return [some_chain(source, states, signs, figures) for states in range(1, 7) for signs in range(1, 6)]


def small_chains():
    """Those whose short views and their courses can be gone through."""
    drawn = [chain for chain in some_chains() if len(chain[1]) <= 3 and len(chain[0]) <= 3]
    return [WORN, FAIR, RING, ONE, TWIN, EVEN, STILL, HOP] + drawn


def multiplied(chain):
    """The same shares, with each line multiplied by another factor."""
    factors = itertools.count(2)

    def by_next(line):
        factor = next(factors)
        return tuple(factor * weight for weight in line)

    signs, start, steps, tells = chain
    return (signs, by_next(start), tuple(map(by_next, steps)), tuple(map(by_next, tells)))


def pair(worth):
    return (worth.numerator, worth.denominator)


def ratio(share):
    return fractions.Fraction(*share)


def part(line, place):
    return fractions.Fraction(line[place], sum(line))


def told_part(chain, state, sign):
    """The share of a sign at a state, 1 for a gap."""
    return fractions.Fraction(1) if sign == "." else part(chain[3][state], chain[0].index(sign))


def weighed(chain, view, course):
    """The chance of a course, as a Fraction."""
    _, start, steps, _ = chain
    worth = fractions.Fraction(1)
    for place, state in enumerate(course):
        worth *= part(steps[course[place - 1]], state) if place else part(start, state)
        worth *= told_part(chain, state, view[place])
    return worth


def courses(chain, view):
    return list(itertools.product(range(len(chain[1])), repeat=len(view)))


def summed(chain, view):
    """The chance of a view, as a Fraction, from its end to its beginning."""
    _, start, steps, _ = chain
    states = range(len(start))
    behind = [fractions.Fraction(1) for _ in states]
    for place in reversed(range(len(view))):
        here = []
        for state in states:
            here.append(told_part(chain, state, view[place]) * behind[state])
        lines = steps if place else [start]
        behind = [sum(part(line, state) * here[state] for state in states) for line in lines]
    return behind[0]


def ahead_worths(chain, view):
    """For each place, by state: the chances up to it, as Fractions, from place to place."""
    _, start, steps, _ = chain
    states = range(len(start))
    table = []
    for sign in view:
        if table:
            come = [sum(worth * part(line, state) for worth, line in zip(table[-1], steps)) for state in states]
        else:
            come = [part(start, state) for state in states]
        table.append([come[state] * told_part(chain, state, sign) for state in states])
    return table


def behind_worths(chain, view):
    """For each place, by state: the shares of the ways on, as Fractions, from the last place on."""
    states = range(len(chain[1]))
    table = []
    for place in reversed(range(len(view))):
        if table:
            told = [told_part(chain, state, view[place + 1]) * table[-1][state] for state in states]
            table.append([sum(part(line, state) * told[state] for state in states) for line in chain[2]])
        else:
            table.append([fractions.Fraction(1) for _ in states])
    return table[::-1]


def short_views(chain, longest):
    for length in range(longest + 1):
        for signs in itertools.product(chain[0] + ".", repeat=length):
            yield "".join(signs)


def some_view(source, chain, length, gaps=1):
    return "".join(source.choice(chain[0] + "." * gaps) for _ in range(length))
