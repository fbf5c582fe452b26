import random

from helpers import Calls
from samples import (
    EVEN, FAIR, GREAT, ONE, RING, SIX, STILL, TWIN, WORN, courses, multiplied, pair, ratio, short_views, small_chains,
    some_chain, some_chains, some_view, summed, weighed,
)

from veiledchains.best import best_count, best_course, best_through, ranked
from veiledchains.chains import plain
from veiledchains.courses import chance, course_chance, possible_count
from veiledchains.errors import Never, NoRank, Unfit
from veiledchains.views import course_error

CHAIN = ("ab", (1, 1), ((2, 1), (1, 2)), ((3, 1), (1, 3)))
ONE_WAY = ("ab", (1, 0), ((1, 1), (0, 1)), ((1, 1), (0, 1)))
ALIKE = ("ab", (1, 1), ((1, 1), (1, 1)), ((1, 2), (1, 2)))
SMALL = small_chains()
NO_NUMBERS = [
    True, False, None, "", "0", "1", (), (0,), [], [0], {}, {0: 0}, -1, -2, 200, 201, 10 ** 399, -(10 ** 399), Unfit(),
    NoRank(0),
]


def in_order(chain, view):
    """All possible courses in order, each with its chance."""
    worths = [(-weighed(chain, view, one), one) for one in courses(chain, view)]
    return [(one, pair(-worth)) for worth, one in sorted(worths) if worth < 0]


class InOrder(Calls):
    def test_examples(self):
        self.tells(((0, 1), (3, 32)), best_course, chain=CHAIN, view="ab")
        self.tells(1, best_count, chain=CHAIN, view="ab")
        self.tells(((0,), (1, 2)), best_course, chain=CHAIN, view=".")
        self.tells(2, best_count, chain=CHAIN, view=".")
        self.tells(((), (1, 1)), best_course, chain=CHAIN, view="")
        self.tells(1, best_count, chain=CHAIN, view="")
        for number, wanted in enumerate((((0, 1), (3, 32)), ((0, 0), (1, 16)), ((1, 1), (1, 16)), ((1, 0), (1, 96)))):
            self.tells(wanted, ranked, chain=CHAIN, view="ab", number=number)
        self.refuses(NoRank(4), ranked, chain=CHAIN, view="ab", number=4)
        self.refuses(NoRank(True), ranked, chain=CHAIN, view="ab", number=True)
        self.tells(((0, 0, 0), (1, 1)), best_course, chain=STILL, view="a.a")
        self.tells(((), (1, 1)), ranked, chain=STILL, view="", number=0)
        self.refuses(Never(), best_course, chain=STILL, view="b")
        self.refuses(NoRank(0), ranked, chain=STILL, view="b", number=0)

    def test_all_courses_of_short_views(self):
        for chain in SMALL:
            for view in short_views(chain, 3):
                wanted = in_order(chain, view)
                self.assertEqual([ranked(chain, view, number) for number in range(len(wanted))], wanted)
                for number in (len(wanted), len(wanted) + 1, 199):
                    with self.assertRaises(NoRank) as caught:
                        ranked(chain, view, number)
                    self.assertEqual(caught.exception.given, number)
                if wanted:
                    self.assertEqual(best_course(chain, view), wanted[0])
                    best = [one for one in wanted if one[1] == wanted[0][1]]
                    self.assertEqual(best_count(chain, view), len(best))
                else:
                    self.assertRaises(Never, best_course, chain, view)
                    self.assertRaises(Never, best_count, chain, view)

    def test_all_chains(self):
        source = random.Random(31)
        for chain in some_chains() + some_chains(400)[::2]:
            for length in (0, 1, 2, 4):
                view = some_view(source, chain, length, 2)
                wanted = in_order(chain, view)
                for number in sorted({0, 1, len(wanted) // 2, len(wanted) - 1, len(wanted), 199}):
                    if 0 <= number < min(len(wanted), 200):
                        self.tells(wanted[number], ranked, chain=chain, view=view, number=number)
                    else:
                        self.refuses(NoRank(number), ranked, chain=chain, view=view, number=number)
                if wanted:
                    self.tells(wanted[0], best_course, chain=chain, view=view)
                    best = [one for one in wanted if one[1] == wanted[0][1]]
                    self.tells(len(best), best_count, chain=chain, view=view)
                else:
                    self.refuses(Never(), best_course, chain=chain, view=view)
                    self.refuses(Never(), best_count, chain=chain, view=view)

    def test_more_courses_than_numbers(self):
        for chain, view in ((SIX, "a.b"), (SIX, "...."), (TWIN, "a....b"), (EVEN, "a" * 8), (some_chains()[-1], "....")):
            wanted = in_order(chain, view)
            self.assertEqual([ranked(chain, view, number) for number in range(min(200, len(wanted)))], wanted[:200])

    def test_number_199(self):
        self.tells((tuple(map(int, f"{199:040b}")), (1, 2 ** 40)), ranked, chain=ALIKE, view="." * 40, number=199)
        self.tells((tuple(map(int, f"{199:08b}")), (1, 3 ** 8 * 2 ** 8)), ranked, chain=ALIKE, view="a" * 8, number=199)
        self.refuses(NoRank(199), ranked, chain=ALIKE, view="a" * 7, number=199)
        self.refuses(NoRank(128), ranked, chain=ALIKE, view="a" * 7, number=128)
        # The courses of a row of a's part by where the worn state begins.
        self.tells(((1,) * 40, pair(weighed(WORN, "b" * 40, (1,) * 40))), ranked, chain=WORN, view="b" * 40, number=0)
        self.refuses(NoRank(1), ranked, chain=WORN, view="b" * 40, number=1)
        worths = in_order(WORN, "a" * 9)
        for number in range(10):
            self.tells(worths[number], ranked, chain=WORN, view="a" * 9, number=number)

    def test_long_views(self):
        source = random.Random(32)
        for chain in some_chains()[4::5] + [SIX, FAIR, RING, CHAIN, TWIN]:
            view = some_view(source, chain, 40)
            if chance(chain, view) == (0, 1):
                self.refuses(Never(), best_course, chain=chain, view=view)
                self.refuses(Never(), best_count, chain=chain, view=view)
                self.refuses(NoRank(0), ranked, chain=chain, view=view, number=0)
                continue
            self.tells(best_course(chain, view), ranked, chain=chain, view=view, number=0)
            many = min(200, possible_count(chain, view))
            found = [ranked(chain, view, number) for number in range(0, many, 9)]
            for course, share in found:
                self.assertIsNone(course_error(chain, view, course))
                self.assertEqual(course_chance(chain, view, course), share)
            keys = [(-ratio(share), course) for course, share in found]
            self.assertEqual(keys, sorted(set(keys)))

    def test_best_by_greatest_way(self):
        """Beside a reckoning with Fractions that goes forward."""
        source = random.Random(33)
        for chain in some_chains() + [SIX]:
            view = some_view(source, chain, 40)
            states = range(len(chain[1]))
            lots = {state: (weighed(chain, view[:1], (state,)), 1) for state in states}
            for place in range(1, 40):
                lots = {state: self.joined(chain, view[place], lots, state) for state in states}
            greatest = max(worth for worth, _ in lots.values())
            if greatest == 0:
                self.refuses(Never(), best_count, chain=chain, view=view)
            else:
                self.assertEqual(best_course(chain, view)[1], pair(greatest))
                wanted = sum(many for worth, many in lots.values() if worth == greatest)
                self.tells(wanted, best_count, chain=chain, view=view)

    def joined(self, chain, sign, lots, state):
        led = []
        for one, (worth, many) in lots.items():
            # The chance of one step: of the course (one, state), that of its beginning left out.
            there = (chain[0], tuple(1 if at == one else 0 for at in range(len(chain[1])))) + chain[2:]
            led.append((worth * weighed(there, "." + sign, (one, state)), many))
        greatest = max(worth for worth, _ in led)
        return greatest, sum(many for worth, many in led if worth == greatest)

    def test_best_count_of_many(self):
        self.tells(2 ** 40, best_count, chain=ALIKE, view="." * 40)
        self.tells(2 ** 40, best_count, chain=ALIKE, view="ab" * 20)
        self.tells(6 ** 40, best_count, chain=("a", (1,) * 6, ((1,) * 6,) * 6, ((1,),) * 6), view="." * 40)
        self.tells(1, best_count, chain=ONE, view="z" * 40)
        self.tells(((0,) * 40, (1, 2 ** 40)), best_course, chain=ALIKE, view="." * 40)

    def test_near_ties(self):
        great = 10 ** 30
        near = ("ab", (great, great + 1), ((1, 1), (1, 1)), ((1, 1), (1, 1)))
        self.tells(((1, 0), pair(weighed(near, "a.", (1, 0)))), best_course, chain=near, view="a.")
        self.tells(2, best_count, chain=near, view="a.")
        self.tells(((0, 0), pair(weighed(near, "a.", (0, 0)))), ranked, chain=near, view="a.", number=2)

    def test_no_numbers(self):
        for chain, view in ((CHAIN, "ab"), (CHAIN, ""), (ALIKE, "." * 40), (STILL, "b")):
            for number in NO_NUMBERS:
                self.refuses(NoRank(number), ranked, chain=chain, view=view, number=number)
        for number in ([1], {"a": [1]}, (1, [2]), 10 ** 399, "x" * 100):
            with self.assertRaises(NoRank) as caught:
                ranked(CHAIN, "ab", number)
            self.assertIs(caught.exception.given, number)

    def test_empty_view(self):
        for chain in SMALL + some_chains(400)[::9]:
            self.tells(((), (1, 1)), best_course, chain=chain, view="")
            self.tells(1, best_count, chain=chain, view="")
            self.tells(((), (1, 1)), ranked, chain=chain, view="", number=0)
            self.refuses(NoRank(1), ranked, chain=chain, view="", number=1)

    def test_never_exactly_where_nothing_is_possible(self):
        for chain, view in ((STILL, "b"), (RING, "b"), (RING, "ab" * 19 + "ba"), (ONE_WAY, "ba"), (WORN, "b" * 40)):
            if possible_count(chain, view) == 0:
                self.refuses(Never(), best_course, chain=chain, view=view)
                self.refuses(Never(), best_count, chain=chain, view=view)
            else:
                self.assertGreater(best_count(chain, view), 0)


class Through(Calls):
    def test_examples(self):
        self.tells(((0, 0), (1, 16)), best_through, chain=CHAIN, view="ab", place=1, state=0)
        self.tells(((1, 1), (1, 16)), best_through, chain=CHAIN, view="ab", place=0, state=1)
        self.tells(((0, 1, 1), (1, 16)), best_through, chain=CHAIN, view="a.b", place=1, state=1)
        self.tells(((0, 1), (1, 4)), best_through, chain=ONE_WAY, view="ab", place=1, state=1)
        self.tells(((0, 1, 1), (1, 4)), best_course, chain=ONE_WAY, view="abb")
        self.refuses(Never(), best_through, chain=ONE_WAY, view="aa", place=1, state=1)

    def check(self, chain, view, call):
        every = in_order(chain, view)
        for place in range(len(view)):
            for state in range(len(chain[1])):
                wanted = [one for one in every if one[0][place] == state]
                call(wanted, {"chain": chain, "view": view, "place": place, "state": state})

    def test_short_views(self):
        def told(wanted, given):
            if wanted:
                self.assertEqual(best_through(**given), wanted[0])
            else:
                self.assertRaises(Never, best_through, **given)
        for chain in SMALL:
            for view in short_views(chain, 3):
                self.check(chain, view, told)

    def test_all_chains(self):
        def told(wanted, given):
            if wanted:
                self.tells(wanted[0], best_through, **given)
            else:
                self.refuses(Never(), best_through, **given)
        source = random.Random(34)
        for chain in some_chains() + some_chains(400)[::5]:
            self.check(chain, some_view(source, chain, 3), told)

    def test_long_views(self):
        source = random.Random(35)
        for chain in some_chains()[3::4] + [SIX, RING, CHAIN, WORN]:
            view = some_view(source, chain, 40, 3)
            if chance(chain, view) == (0, 1):
                self.refuses(Never(), best_through, chain=chain, view=view, place=20, state=0)
                continue
            best, share = best_course(chain, view)
            for place in (0, 1, 20, 39):
                found = []
                for state in range(len(chain[1])):
                    try:
                        course, told = best_through(chain, view, place, state)
                    except Never:
                        continue
                    self.assertEqual(course[place], state)
                    self.assertEqual(course_chance(chain, view, course), told)
                    found.append(ratio(told))
                self.assertEqual(max(found), ratio(share))
                self.tells((best, share), best_through, chain=chain, view=view, place=place, state=best[place])

    def test_least_ones(self):
        self.tells(((0,) * 20 + (1,) + (0,) * 19, (1, 2 ** 40)), best_through, chain=ALIKE, view="." * 40, place=20, state=1)
        self.tells(((1,) + (0,) * 39, (1, 2 ** 40)), best_through, chain=ALIKE, view="." * 40, place=0, state=1)


class WhatHolds(Calls):
    def test_a_sign_behind_raises_nothing(self):
        source = random.Random(36)
        for chain in some_chains() + SMALL:
            for length in (0, 1, 4, 39):
                view = some_view(source, chain, length)
                if chance(chain, view) == (0, 1):
                    continue
                share = ratio(best_course(chain, view)[1])
                for sign in chain[0] + ".":
                    if chance(chain, view + sign) != (0, 1):
                        self.assertLessEqual(ratio(best_course(chain, view + sign)[1]), share)

    def test_chains_with_the_same_shares(self):
        source = random.Random(37)
        for chain in some_chains() + SMALL:
            for length in (0, 1, 3, 40):
                view = some_view(source, chain, length)
                if summed(chain, view) == 0:
                    continue
                last = min(200, possible_count(chain, view)) - 1
                for other in (multiplied(chain), plain(chain)):
                    self.tells(best_course(chain, view), best_course, chain=other, view=view)
                    self.tells(best_count(chain, view), best_count, chain=other, view=view)
                    told = ranked(chain, view, last)
                    self.tells(told, ranked, chain=other, view=view, number=last)
                    if length:
                        state = told[0][-1]
                        through = best_through(chain, view, length - 1, state)
                        self.tells(through, best_through, chain=other, view=view, place=length - 1, state=state)

    def test_the_same_calls_again(self):
        asked = [{"chain": chain, "view": view} for chain in (CHAIN, FAIR, RING, TWIN) for view in ("ab", "b", "", "a.")]
        self.tells_again(best_course, asked)
        self.tells_again(best_count, asked)
        self.tells_again(ranked, [dict(given, number=number) for given in asked for number in (0, 1, 5)])
        asked = [given for given in asked if given["view"]]
        self.tells_again(best_through, [dict(given, place=0, state=state) for given in asked for state in (0, 1)])

    def test_great_weights_and_beyond_the_limits(self):
        uneven = ("ab", (1, GREAT), ((GREAT, 1), (1, GREAT)), ((1, GREAT), (GREAT, 1)))
        for view in ("ab", "a.b", "bb.a"):
            wanted = in_order(uneven, view)
            self.tells(wanted[0], best_course, chain=uneven, view=view)
            self.tells(wanted[-1], ranked, chain=uneven, view=view, number=len(wanted) - 1)
        wide = ("abcdef", (1,) * 7, ((1,) * 7,) * 7, ((1,) * 6,) * 7)
        self.tells(7 ** 50, best_count, chain=wide, view="." * 50)
        self.tells(((0,) * 49 + (6,), (1, 7 ** 50)), ranked, chain=wide, view="." * 50, number=6)
        source = random.Random(38)
        chain = some_chain(source, 6, 5, 400)
        view = some_view(source, chain, 12)
        course, share = ranked(chain, view, 199)
        self.assertEqual(course_chance(chain, view, course), share)
