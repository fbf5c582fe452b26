"""Kinds of values."""

from math import gcd


def is_whole(value):
    """Whether value is an integer; a bool is none here."""
    return isinstance(value, int) and not isinstance(value, bool)


def is_fraction(value):
    """Whether value is a pair of integers in lowest terms, the second one from 1 on."""
    if not isinstance(value, tuple) or len(value) != 2:
        return False
    return is_whole(value[0]) and is_whole(value[1]) and value[1] > 0 and gcd(value[0], value[1]) == 1


def is_share(value):
    """Whether value is a fraction from 0 to 1."""
    return is_fraction(value) and 0 <= value[0] <= value[1]


def ascends(items):
    """Whether each item is greater than the one ahead."""
    return all([one < other for one, other in zip(items, items[1:])])
