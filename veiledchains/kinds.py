"""Kinds of values."""


def is_whole(value):
    """Whether value is an integer; a bool is none here."""
    return isinstance(value, int) and not isinstance(value, bool)
