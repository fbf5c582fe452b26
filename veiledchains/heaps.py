"""Heaps of views that were seen."""

from veiledchains.bounds import MAX_HEAP, MAX_TIMES, MAX_TOTAL
from veiledchains.courses import chance
from veiledchains.fractions import all_multiplied
from veiledchains.kinds import is_whole
from veiledchains.views import view_error


def heap_error(chain, value):
    """None if value is a heap of chain, otherwise what is first wrong with it."""
    if not isinstance(value, tuple) or not 1 <= len(value) <= MAX_HEAP:
        return "form"
    for place, item in enumerate(value):
        word = _item_error(chain, item)
        if word is not None:
            return (place, word)
    if sum([len(view) * times for view, times in value]) > MAX_TOTAL:
        return "total"
    return None


def _item_error(chain, item):
    """None for a view with its times, otherwise the word for what is wrong."""
    if not isinstance(item, tuple) or len(item) != 2:
        return "pair"
    view, times = item
    if view_error(chain, view) is not None:
        return "view"
    if not is_whole(times) or not 1 <= times <= MAX_TIMES:
        return "times"
    return None


def heap_chance(chain, heap):
    """The product of the chances of all views, each taken its times."""
    shares = []
    for view, times in heap:
        shares.extend([chance(chain, view)] * times)
    return all_multiplied(shares)
