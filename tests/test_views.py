from helpers import NOT_STRINGS, Calls
from samples import FAIR, ONE, some_chains

from veiledchains.errors import Unfit
from veiledchains.views import course_error, view_error

SIX = some_chains()[-1]
NO_STATES = [
    -1, -2, 2, 3, 6, 10 ** 399, -(10 ** 399), True, False, None, "0", "", (0,), (), [0], [], {}, {0: 0}, Unfit(),
]


class Views(Calls):
    def test_examples(self):
        for value in ("", "ab.", "." * 40):
            self.tells(None, view_error, chain=FAIR, value=value)
        self.tells(("sign", 2), view_error, chain=FAIR, value="abc")
        self.tells(("sign", 1), view_error, chain=FAIR, value="a b")
        for value in ("." * 41, ["a"], None):
            self.tells("form", view_error, chain=FAIR, value=value)

    def test_views_of_each_length(self):
        for length in range(42):
            for sign in "ab.":
                self.tells(None if length <= 40 else "form", view_error, chain=FAIR, value=sign * length)

    def test_every_sign_of_the_chain(self):
        for sign in "abcdefghijklmnopqrstuvwxyz.,-A0 \n":
            for chain in (FAIR, ONE, SIX):
                wanted = None if sign in chain[0] + "." else ("sign", 0)
                self.tells(wanted, view_error, chain=chain, value=sign)

    def test_the_first_foreign_sign(self):
        for length in (1, 2, 3, 39, 40):
            for place in range(length):
                for sign in ("c", "A", " ", "\n", "-", "0", "z", ",", "\u00e9"):
                    value = ("ab." * 14)[:place] + sign + ("b.a" * 14)[:length - place - 1]
                    self.tells(("sign", place), view_error, chain=FAIR, value=value)
                    doubled = value[:place + 1] + sign * (length - place - 1)
                    self.tells(("sign", place), view_error, chain=FAIR, value=doubled)

    def test_too_long_ahead_of_foreign_signs(self):
        for value in ("c" * 41, "c" + "a" * 40, "a" * 40 + "c", "a" * 20000, " " * 20000):
            self.tells("form", view_error, chain=FAIR, value=value)

    def test_what_is_no_string(self):
        for value in NOT_STRINGS + [("a", "b"), ["a", "b"], ("a",), {"a": "b"}]:
            self.tells("form", view_error, chain=FAIR, value=value)


class Courses(Calls):
    def test_examples(self):
        self.tells(None, course_error, chain=FAIR, view="ab.", value=(0, 1, 1))
        self.tells("form", course_error, chain=FAIR, view="ab.", value=(0, 1))
        self.tells("form", course_error, chain=FAIR, view="ab.", value=[0, 1, 1])
        self.tells(("state", 1), course_error, chain=FAIR, view="ab.", value=(0, 2, -1))
        self.tells(("state", 2), course_error, chain=FAIR, view="ab.", value=(0, 1, True))
        self.tells(None, course_error, chain=FAIR, view="", value=())
        self.tells("form", course_error, chain=FAIR, view="", value="")

    def test_tuples_of_other_lengths(self):
        for length in range(41):
            view = ("ab." * 14)[:length]
            for items in range(43):
                wanted = None if items == length else "form"
                self.tells(wanted, course_error, chain=FAIR, view=view, value=((0, 1, 1) * 15)[:items])

    def test_what_is_no_tuple(self):
        for value in [None, True, 0, "", "0", "00", [], [0], [0, 0], {}, {0: 0}, {0: 0, 1: 0}, Unfit()]:
            for view in ("", "a", "ab"):
                self.tells("form", course_error, chain=FAIR, view=view, value=value)

    def test_items_that_are_no_states(self):
        for item in NO_STATES:
            for length in (1, 2, 3, 40):
                for place in range(length):
                    value = (0,) * place + (item,) + (1,) * (length - place - 1)
                    self.tells(("state", place), course_error, chain=FAIR, view="." * length, value=value)
                    value = (0,) * place + (item,) + (None, -1, 2, True) * 10
                    self.tells(("state", place), course_error, chain=FAIR, view="a" * length, value=value[:length])
                self.tells("form", course_error, chain=FAIR, view="." * length, value=(item,) * (length + 1))

    def test_the_states_of_the_chain(self):
        for chain in some_chains():
            for state in range(-7, 8):
                wanted = None if 0 <= state < len(chain[1]) else ("state", 1)
                self.tells(wanted, course_error, chain=chain, view=".." + chain[0][0], value=(0, state, 0))

    def test_the_view_does_not_rule_states_out(self):
        self.tells(None, course_error, chain=("ab", (1, 0), ((1, 0), (1, 0)), ((1, 0), (1, 0))), view="bb", value=(1, 1))
