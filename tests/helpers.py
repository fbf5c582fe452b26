"""What the tests share: strict likeness, and calls by place and by name."""

import copy
import unittest

from veiledchains.errors import BadLog, ChainError, NoRank, Unfit

NOT_STRINGS = [
    None, True, False, 0, 1, -1, 10 ** 399, (), ("1",), ("1", "2"), [], ["1"], {}, {"1": 1}, {(1, "a"): None},
    ((), [{}]), Unfit(), NoRank([1]), BadLog(place=-1),
]



def deep(kind, turns=19):
    """A value nested so many turns deep."""
    value = kind()
    for _ in range(turns):
        value = {"a": value} if kind is dict else kind([value])
    return value


# Of all kinds, and none of them a pair, a tuple of tuples or a tuple of pairs that fits anything in the tests.
VALUES = NOT_STRINGS + [
    "", "form", "a\nb", "0", "a" * 20000, ((),), ((), ()), (True,), (None,), ("",), ((0, 1), None), ([0], [1]), [(0,), (1,)],
    (((),),), (0, 0), (-1,), (10 ** 399,), ((True,),), ((False, True),), (-(10 ** 399), 1), (0,) * 4000, ((0,) * 3999,),
    ({},), ({0: 1},), deep(tuple), deep(list), deep(dict),
]


def same(one, other):
    """Whether both are alike, kind by kind: True is not 1 here."""
    if type(one) is not type(other):
        return False
    if isinstance(one, (list, tuple)):
        return len(one) == len(other) and all(map(same, one, other))
    if isinstance(one, dict):
        return same(list(one.items()), list(other.items()))
    if isinstance(one, ChainError):
        return same(vars(one), vars(other))
    return one == other


def shown(value):
    text = repr(value) if not isinstance(value, int) or abs(value) < 10 ** 1000 else "a great integer"
    return text if len(text) < 300 else text[:300] + ".."


class Calls(unittest.TestCase):
    """Calls by place and by name, in any order, and again; what is handed in has to stay as it was.

    The names are handed in in the order in which the document tells them.
    """

    def outcomes(self, function, given):
        held = copy.deepcopy(given)
        names = list(given)
        for places, named in ((len(names), []), (0, names), (1, names[1:]), (0, names[::-1]), (len(names), [])):
            by_place = [given[name] for name in names[:places]]
            by_name = {name: given[name] for name in named}
            try:
                yield function(*by_place, **by_name)
            except ChainError as error:
                yield error
            if not same(held, given):
                self.fail(f"{function.__name__} changed what it was handed")

    def tells(self, wanted, function, **given):
        for told in self.outcomes(function, given):
            if not same(told, wanted):
                handed = {name: shown(value) for name, value in given.items()}
                self.fail(f"{function.__name__} {handed}: {shown(told)}, not {shown(wanted)}")

    def tells_again(self, function, asked):
        """Each of the calls tells the same again, with calls of the others between."""
        first = [list(self.outcomes(function, given))[0] for given in asked]
        for given, told in reversed(list(zip(asked, first))):
            self.tells(told, function, **given)

    def refuses(self, error, function, **given):
        """The very class of error, with the very fields."""
        self.assertIsInstance(error, ChainError)
        self.tells(error, function, **given)
