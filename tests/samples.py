"""Chains, views and reference reckonings for the tests."""

import fractions
import itertools
import random

WORN = ("ab", (1, 1), ((1, 1), (0, 1)), ((1, 0), (1, 3)))
FAIR = ("ab", (1, 1), ((2, 1), (1, 3)), ((3, 1), (1, 1)))
RING = ("ab", (1, 0), ((0, 1), (1, 1)), ((1, 0), (1, 1)))
ONE = ("z", (7,), ((2,),), ((1,),))
GREAT = 10 ** 399


def some_line(source, width, figures):
    """Some weights are 0, but not all."""
    line = [source.choice((0, 1, 1)) * source.randrange(10 ** (figures - 1), 10 ** figures) for _ in range(width)]
    line[source.randrange(width)] += 10 ** (figures - 1)
    return tuple(min(weight, 10 ** figures - 1) for weight in line)


def some_chain(source, states, signs, figures=1):
    return (
        "".join(sorted(source.sample("abcdefghijklmnopqrstuvwxyz", signs))),
        some_line(source, states, figures),
        tuple(some_line(source, states, figures) for _ in range(states)),
        tuple(some_line(source, signs, figures) for _ in range(states)),
    )


def some_chains(figures=1):
    """Of each number of states with each number of signs."""
    source = random.Random(figures)
    return [some_chain(source, states, signs, figures) for states in range(1, 7) for signs in range(1, 6)]


def multiplied(chain):
    """The same shares, with each line multiplied by another factor."""
    factors = itertools.count(2)

    def by_next(line):
        factor = next(factors)
        return tuple(factor * weight for weight in line)

    signs, start, steps, tells = chain
    return (signs, by_next(start), tuple(map(by_next, steps)), tuple(map(by_next, tells)))


def pair(worth):
    return (worth.numerator, worth.denominator)


def ratio(share):
    return fractions.Fraction(*share)


def part(line, place):
    return fractions.Fraction(line[place], sum(line))


def weighed(chain, view, course):
    """The chance of a course, as a Fraction."""
    signs, start, steps, tells = chain
    worth = fractions.Fraction(1)
    for place, state in enumerate(course):
        worth *= part(steps[course[place - 1]], state) if place else part(start, state)
        if view[place] != ".":
            worth *= part(tells[state], signs.index(view[place]))
    return worth


def courses(chain, view):
    return list(itertools.product(range(len(chain[1])), repeat=len(view)))


def summed(chain, view):
    """The chance of a view, as a Fraction, from its end to its beginning."""
    signs, start, steps, tells = chain
    states = range(len(start))
    behind = [fractions.Fraction(1) for _ in states]
    for place in reversed(range(len(view))):
        here = []
        for state in states:
            sign = view[place]
            told = fractions.Fraction(1) if sign == "." else part(tells[state], signs.index(sign))
            here.append(told * behind[state])
        lines = steps if place else [start]
        behind = [sum(part(line, state) * here[state] for state in states) for line in lines]
    return behind[0]


def short_views(chain, longest):
    for length in range(longest + 1):
        for signs in itertools.product(chain[0] + ".", repeat=length):
            yield "".join(signs)


def some_view(source, chain, length, gaps=1):
    return "".join(source.choice(chain[0] + "." * gaps) for _ in range(length))
