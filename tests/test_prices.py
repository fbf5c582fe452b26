import fractions
import random

from helpers import NOT_STRINGS, Calls
from samples import (
    EVEN, FAIR, RING, SIX, STILL, TWIN, WORN, courses, multiplied, pair, part, ratio, short_views, small_chains,
    some_chains, some_view, summed, told_part, weighed,
)

from veiledchains.best import best_course
from veiledchains.chains import plain
from veiledchains.errors import Unfit
from veiledchains.prices import prices, prices_bound

CHAIN = ("ab", (1, 1), ((2, 1), (1, 2)), ((3, 1), (1, 3)))
TOLD = (((1, 4), (1, 2)), ((1, 1), (1, 1)))
ONES = (((1, 1), (1, 1)), ((1, 1), (1, 1)))
SMALL = small_chains()
MANY = some_chains() + SMALL + [SIX]
FRACTION = fractions.Fraction


def asked_by(chain, view, place, line):
    """What is asked at a place, by state, if these are the prices at the next one."""
    states = range(len(chain[1]))
    told = [told_part(chain, state, view[place + 1]) * ratio(line[state]) for state in states]
    return [max(part(weights, state) * told[state] for state in states) for weights in chain[2]]


def bound_by(chain, view, line):
    """The bound of prices with this line at the first place."""
    states = range(len(chain[1]))
    return max(part(chain[1], state) * told_part(chain, state, view[0]) * ratio(line[state]) for state in states)


def least_prices(chain, view):
    """What is just asked, from the last place on."""
    table = [tuple((1, 1) for _ in chain[1])]
    for place in reversed(range(len(view) - 1)):
        table.append(tuple(map(pair, asked_by(chain, view, place, table[-1]))))
    return tuple(table[::-1])


def some_prices(source, chain, view):
    """Prices with more than is asked, here and there."""
    more = lambda: FRACTION(source.choice((0, 0, 1, 2)), source.randrange(1, 9))
    table = [tuple(pair(1 + more()) for _ in chain[1])]
    for place in reversed(range(len(view) - 1)):
        table.append(tuple(pair(worth + more()) for worth in asked_by(chain, view, place, table[-1])))
    return tuple(table[::-1])


def best_chance(chain, view):
    return best_course(chain, view)[1] if summed(chain, view) else (0, 1)


def with_item(table, place, state, price):
    line = table[place][:state] + (price,) + table[place][state + 1:]
    return table[:place] + (line,) + table[place + 1:]


class Bound(Calls):
    def test_examples(self):
        self.tells((3, 32), prices_bound, chain=CHAIN, view="ab", value=TOLD)
        self.tells((3, 8), prices_bound, chain=CHAIN, view="ab", value=ONES)
        self.tells((3, 32), prices_bound, chain=CHAIN, view="ab", value=(((1, 4), (3, 4)), ONES[0]))
        self.tells((1, 1), prices_bound, chain=CHAIN, view=".", value=(((1, 1), (2, 1)),))
        self.refuses(Unfit(), prices_bound, chain=CHAIN, view="ab", value=(((1, 5), (1, 2)), ONES[0]))
        self.refuses(Unfit(), prices_bound, chain=CHAIN, view="ab", value=(((2, 8), (1, 2)), ONES[0]))
        self.refuses(Unfit(), prices_bound, chain=CHAIN, view="ab", value=TOLD[:1])

    def test_more_than_is_asked(self):
        source = random.Random(41)
        for chain in MANY:
            for length in (1, 2, 5, 40):
                view = some_view(source, chain, length)
                for value in (some_prices(source, chain, view), tuple(tuple((7, 2) for _ in chain[1]) for _ in view)):
                    self.tells(pair(bound_by(chain, view, value[0])), prices_bound, chain=chain, view=view, value=value)

    def test_just_what_is_asked(self):
        source = random.Random(42)
        for chain in MANY:
            for length in (1, 2, 5, 40):
                view = some_view(source, chain, length)
                value = least_prices(chain, view)
                self.tells(best_chance(chain, view), prices_bound, chain=chain, view=view, value=value)

    def test_a_little_less_at_each_place_and_state(self):
        source = random.Random(43)
        tiny = FRACTION(1, 10 ** 60)
        for chain in (CHAIN, TWIN, FAIR, STILL, RING, EVEN, SIX, some_chains()[-1]):
            for view in (some_view(source, chain, 4), "." * 3, chain[0][0], "."):
                value = least_prices(chain, view)
                for place in range(len(view)):
                    for state in range(len(chain[1])):
                        less = with_item(value, place, state, pair(ratio(value[place][state]) - tiny))
                        self.refuses(Unfit(), prices_bound, chain=chain, view=view, value=less)
                        more = with_item(value, place, state, pair(ratio(value[place][state]) + tiny))
                        if place == 0:
                            wanted = pair(bound_by(chain, view, more[0]))
                            self.tells(wanted, prices_bound, chain=chain, view=view, value=more)

    def test_less_in_the_middle_and_at_the_end(self):
        great = (((9, 1), (9, 1)),) * 4
        self.tells((27, 8), prices_bound, chain=CHAIN, view="abab", value=great)
        for place in range(3):
            for state in (0, 1):
                value = with_item(great, place, state, (1, 9))
                self.refuses(Unfit(), prices_bound, chain=CHAIN, view="abab", value=value)
        for state in (0, 1):
            for price in ((0, 1), (1, 2), (10 ** 30 - 1, 10 ** 30), (-1, 1)):
                value = with_item(great, 3, state, price)
                self.refuses(Unfit(), prices_bound, chain=CHAIN, view="abab", value=value)
            self.tells((27, 8), prices_bound, chain=CHAIN, view="abab", value=with_item(great, 3, state, (1, 1)))

    def test_no_fractions(self):
        bad = [
            (2, 4), (4, 2), (6, 3), (2, 2), (0, 2), (0, 5), (1, 0), (0, 0), (1, -1), (-1, -1), (3, -2), (-1, 1), (-3, 2),
            (True, 1), (1, True), (True, True), (False, 1), (1, 1, 1), (1,), (), [1, 1], [2, 1], "11", "1/1", "", 1, 0,
            2, None, True, False, {1: 1}, {}, ((1, 1), 1), (1, (1, 1)), ("1", 1), (1, "1"), (None, 1), (1, None),
            ([], []), (-(10 ** 399), 1), (10 ** 399, 10 ** 398), Unfit(),
        ]
        for chain, view in ((CHAIN, "a"), (CHAIN, "ab"), (STILL, "b"), (STILL, "ab"), (RING, "ba")):
            great = (((9, 1),) * len(chain[1]),) * len(view)
            for place in range(len(view)):
                for state in range(len(chain[1])):
                    for price in bad:
                        value = with_item(great, place, state, price)
                        self.refuses(Unfit(), prices_bound, chain=chain, view=view, value=value)
                    value = with_item(great, place, state, (10 ** 399, 10 ** 398 - 1))
                    self.assertIsInstance(prices_bound(chain, view, value), tuple)

    def test_too_few_and_too_many(self):
        for chain, view in ((CHAIN, "a"), (CHAIN, "ab"), (STILL, "b"), (STILL, "ab"), (SIX, "e.a")):
            line = ((9, 1),) * len(chain[1])
            for many in (0, 1, 2, 3, 4, 41):
                if many != len(view):
                    self.refuses(Unfit(), prices_bound, chain=chain, view=view, value=(line,) * many)
            for place in range(len(view)):
                for other in ((), line[1:], line + line[:1], line * 2, list(line), {1: 1}, None, "9", 9):
                    value = (line,) * place + (other,) + (line,) * (len(view) - place - 1)
                    self.refuses(Unfit(), prices_bound, chain=chain, view=view, value=value)
            self.refuses(Unfit(), prices_bound, chain=chain, view=view, value=[line] * len(view))

    def test_values_of_all_kinds(self):
        for chain, view in ((CHAIN, "a"), (CHAIN, "ab"), (STILL, "b"), (RING, "b"), (FAIR, "." * 40)):
            for value in NOT_STRINGS + ["", "1", "prices", TOLD[0], list(TOLD), [TOLD], (TOLD,), chain]:
                self.refuses(Unfit(), prices_bound, chain=chain, view=view, value=value)

    def test_chance_nought(self):
        self.tells((0, 1), prices_bound, chain=STILL, view="b", value=(((5, 3),),))
        self.tells((0, 1), prices_bound, chain=STILL, view="ab", value=(((0, 1),), ((1, 1),)))
        self.tells((7, 1), prices_bound, chain=STILL, view="ab", value=(((7, 1),), ((1, 1),)))
        self.refuses(Unfit(), prices_bound, chain=STILL, view="ab", value=(((-1, 1),), ((1, 1),)))
        self.refuses(Unfit(), prices_bound, chain=STILL, view="ab", value=(((0, 1),), ((0, 1),)))
        self.refuses(Unfit(), prices_bound, chain=STILL, view="b", value=(((1, 2),),))


class Prices(Calls):
    def told(self, chain, view, call):
        value = prices(chain, view)
        self.assertEqual(len(value), len(view))
        self.assertIsInstance(hash(value), int)
        call(best_chance(chain, view), value)
        for place in range(len(view) - 1):
            for price, asked in zip(value[place], asked_by(chain, view, place, value[place + 1])):
                self.assertGreaterEqual(ratio(price), asked)

    def test_examples(self):
        self.assertEqual(prices_bound(CHAIN, "ab", prices(CHAIN, "ab")), (3, 32))
        self.assertEqual(prices_bound(STILL, "ab", prices(STILL, "ab")), (0, 1))

    def test_short_views(self):
        for chain in SMALL:
            for view in short_views(chain, 3):
                if view:
                    self.told(chain, view, lambda wanted, value: self.assertEqual(
                        prices_bound(chain, view, value), wanted))

    def test_all_chains(self):
        source = random.Random(44)
        for chain in MANY + some_chains(400)[::7]:
            for length in (1, 3) if max(chain[1]) > 1000 else (1, 2, 5, 40):
                view = some_view(source, chain, length)
                self.told(chain, view, lambda wanted, value: self.tells(
                    wanted, prices_bound, chain=chain, view=view, value=value))

    def test_by_place_and_name_and_again(self):
        asked = [{"chain": chain, "view": view} for chain in (CHAIN, FAIR, RING, TWIN) for view in ("ab", "b", "a.")]
        self.tells_again(prices, asked)
        self.tells_again(prices_bound, [dict(given, value=value) for given in asked for value in (ONES, TOLD)])

    def test_chains_with_the_same_shares(self):
        source = random.Random(45)
        for chain in MANY:
            for length in (1, 3, 40):
                view = some_view(source, chain, length)
                wanted = best_chance(chain, view)
                value = prices(chain, view)
                for other in (multiplied(chain), plain(chain)):
                    self.tells(wanted, prices_bound, chain=other, view=view, value=value)
                    self.tells(wanted, prices_bound, chain=chain, view=view, value=prices(other, view))


class WhatHolds(Calls):
    def test_no_course_beats_the_bound(self):
        source = random.Random(46)
        for chain in SMALL:
            for view in short_views(chain, 3):
                if view:
                    worths = [weighed(chain, view, course) for course in courses(chain, view)]
                    for value in (prices(chain, view), some_prices(source, chain, view)):
                        self.assertLessEqual(max(worths), ratio(prices_bound(chain, view, value)))

    def test_beyond_the_limits(self):
        wide = ("abcdef", (1,) * 7, ((1,) * 7,) * 7, ((1,) * 6,) * 7)
        self.tells((1, 6 ** 50 * 7 ** 50), prices_bound, chain=wide, view="f" * 50, value=prices(wide, "f" * 50))
        self.tells((), prices, chain=WORN, view="")
        self.tells((1, 1), prices_bound, chain=WORN, view="", value=())
