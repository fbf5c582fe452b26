"""Views of chains, and courses of views."""

from veiledchains.bounds import MAX_ROW
from veiledchains.kinds import is_whole

GAP = "."


def view_error(chain, value):
    """None if value is a view of chain, otherwise what is first wrong with it."""
    if not isinstance(value, str) or len(value) > MAX_ROW:
        return "form"
    for place, sign in enumerate(value):
        if sign != GAP and sign not in chain[0]:
            return ("sign", place)
    return None


def course_error(chain, view, value):
    """None if value is a course of view, otherwise what is first wrong with it."""
    if not isinstance(value, tuple) or len(value) != len(view):
        return "form"
    states = len(chain[1])
    for place, item in enumerate(value):
        if not is_whole(item) or not 0 <= item < states:
            return ("state", place)
    return None
