"""Fractions: pairs (a, b) in lowest terms, b from 1 on, that stand for a / b."""

from math import gcd

from veiledchains.errors import BadText, Unfit
from veiledchains.figures import integer_text, is_integer_text, is_natural_text


def lowest(a, b):
    """The fraction a / b."""
    if b == 0:
        raise Unfit()
    common = gcd(a, b)
    if b < 0:
        common = -common
    return (a // common, b // common)


def added(one, other):
    """The fraction one + other."""
    return lowest(one[0] * other[1] + other[0] * one[1], one[1] * other[1])


def all_added(items):
    """The sum of these fractions."""
    total = (0, 1)
    for item in items:
        total = added(total, item)
    return total


def subtracted(one, other):
    """The fraction one - other."""
    return added(one, (-other[0], other[1]))


def multiplied(one, other):
    """The fraction one * other."""
    return lowest(one[0] * other[0], one[1] * other[1])


def divided(one, other):
    """The fraction one / other."""
    return lowest(one[0] * other[1], one[1] * other[0])


def all_multiplied(items):
    """The product of these fractions."""
    above = 1
    below = 1
    for item in items:
        above = above * item[0]
        below = below * item[1]
    return lowest(above, below)


def compared(one, other):
    """-1, 0 or 1, as one is less than, equal to, or greater than other."""
    left = one[0] * other[1]
    right = other[0] * one[1]
    if left < right:
        return -1
    if left > right:
        return 1
    return 0


def fraction_text(fraction):
    """The text of this fraction."""
    a, b = fraction
    if b == 1:
        return integer_text(a)
    return integer_text(a) + "/" + integer_text(b)


def read_fraction(value):
    """The fraction of which value is the text."""
    if not isinstance(value, str):
        raise BadText()
    above, stroke, below = value.partition("/")
    if not is_integer_text(above):
        raise BadText()
    if stroke == "":
        return (int(above), 1)
    if not is_natural_text(below):
        raise BadText()
    a = int(above)
    b = int(below)
    if b < 2 or gcd(a, b) != 1:
        raise BadText()
    return (a, b)
