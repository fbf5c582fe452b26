import fractions
import math
import random

from helpers import Calls
from samples import (
    FAIR, GREAT, ONE, RING, SIX, WORN, courses, multiplied, pair, ratio, short_views, small_chains, some_chain,
    some_chains, some_view, summed, weighed,
)

from veiledchains.chains import plain
from veiledchains.courses import chance, course_at, course_chance, possible_count
from veiledchains.errors import NoRank, Unfit

SMALL = small_chains()
NO_NUMBERS = [
    True, False, None, "", "0", "1", (), (0,), (0, 0), [], [0], [[1]], {}, {0: 0}, -1, -2, -(10 ** 399), 10 ** 399, Unfit(),
]


def possible(chain, view):
    return [course for course in courses(chain, view) if weighed(chain, view, course) > 0]


class CourseChance(Calls):
    def test_examples(self):
        for course, wanted in (((0, 0), (1, 16)), ((0, 1), (1, 16)), ((1, 0), (1, 64)), ((1, 1), (3, 32))):
            self.tells(wanted, course_chance, chain=FAIR, view="ab", course=course)
        self.tells((1, 16), course_chance, chain=FAIR, view="a.", course=(1, 0))
        self.tells((1, 1), course_chance, chain=FAIR, view="", course=())

    def test_short_views(self):
        for chain in SMALL:
            for view in short_views(chain, 3):
                for course in courses(chain, view):
                    wanted = pair(weighed(chain, view, course))
                    self.assertEqual(course_chance(chain, view, course), wanted)
                    self.assertEqual(course_chance(multiplied(chain), view, course), wanted)

    def test_all_chains(self):
        source = random.Random(5)
        for chain in some_chains() + some_chains(400):
            for length in (1, 2, 5, 40):
                view = some_view(source, chain, length)
                course = tuple(source.randrange(len(chain[1])) for _ in view)
                self.tells(pair(weighed(chain, view, course)), course_chance, chain=chain, view=view, course=course)

    def test_noughts(self):
        self.tells((0, 1), course_chance, chain=RING, view="a", course=(1,))
        self.tells((0, 1), course_chance, chain=RING, view="b", course=(0,))
        self.tells((0, 1), course_chance, chain=RING, view="..", course=(0, 0))
        self.tells((1, 1), course_chance, chain=RING, view="..", course=(0, 1))
        self.tells((0, 1), course_chance, chain=RING, view="ab" * 20, course=(0,) * 40)

    def test_long_views(self):
        self.tells((1, 6 ** 80), course_chance, chain=(
            "abcde", (1,) * 6, ((1,) * 6,) * 6, ((2, 1, 1, 1, 1),) * 6), view="b" * 40, course=(5,) * 40)
        self.tells((1, 6 ** 40), course_chance, chain=(
            "abcde", (1,) * 6, ((1,) * 6,) * 6, ((2, 1, 1, 1, 1),) * 6), view="." * 40, course=(0,) * 40)


class Chance(Calls):
    def test_examples(self):
        for view, wanted in [
            ("", (1, 1)), ("a", (5, 8)), ("a.", (5, 8)), ("...", (1, 1)), ("aa", (25, 64)), ("ab", (15, 64)),
            ("ba", (43, 192)), ("bb", (29, 192)),
        ]:
            self.tells(wanted, chance, chain=FAIR, view=view)
        for view, wanted in (("b", (0, 1)), ("ab", (1, 2)), ("aab", (1, 8)), ("a.b", (1, 4))):
            self.tells(wanted, chance, chain=RING, view=view)

    def test_the_sum_over_all_courses(self):
        for chain in SMALL:
            for view in short_views(chain, 3):
                told = chance(chain, view)
                self.assertEqual(told, pair(summed(chain, view)))
                self.assertEqual(told, pair(sum(weighed(chain, view, course) for course in courses(chain, view))))
                self.assertEqual(told, pair(sum(ratio(course_chance(chain, view, course)) for course in courses(chain, view))))

    def test_empty_and_gaps(self):
        for chain in SMALL + some_chains() + [SIX]:
            for length in (0, 1, 2, 39, 40):
                self.tells((1, 1), chance, chain=chain, view="." * length)
        for chain in some_chains(400):
            for length in (0, 1, 2, 3):
                self.tells((1, 1), chance, chain=chain, view="." * length)

    def test_long_views(self):
        source = random.Random(6)
        for chain in some_chains() + [SIX, FAIR, RING, WORN]:
            for length in (1, 4, 17, 40):
                for gaps in (1, 4):
                    view = some_view(source, chain, length, gaps)
                    self.tells(pair(summed(chain, view)), chance, chain=chain, view=view)

    def test_six_states_and_40_signs(self):
        self.tells((1, 3 ** 40), chance, chain=SIX, view="a" * 40)
        self.tells((1, 15 ** 20), chance, chain=SIX, view=".e" * 20)
        even = ("ab", (1,) * 6, ((1,) * 6,) * 6, tuple((state, 5 - state) for state in range(6)))
        self.tells((1, 2 ** 40), chance, chain=even, view="ab" * 20)

    def test_great_weights(self):
        source = random.Random(7)
        for states in (1, 2, 3):
            chain = some_chain(source, states, 2, 400)
            view = some_view(source, chain, 4)
            self.tells(pair(summed(chain, view)), chance, chain=chain, view=view)
        uneven = ("ab", (1, GREAT), ((GREAT, 1), (1, GREAT)), ((1, GREAT), (GREAT, 1)))
        self.tells(pair(summed(uneven, "ab.b")), chance, chain=uneven, view="ab.b")

    def test_chance_0(self):
        never = ("ab", (1, 0), ((1, 0), (0, 1)), ((1, 0), (0, 1)))
        for view in ("b", ".b", "ab", "aab.", "." * 39 + "b", "b" * 40):
            self.tells((0, 1), chance, chain=never, view=view)
        for view in ("a", "a.a", "." * 39 + "a", "a" * 40):
            self.tells((1, 1), chance, chain=never, view=view)

    def test_somewhat_beyond_the_limits(self):
        chain = ("abcdef", (1,) * 7, ((1,) * 7,) * 7, ((1,) * 6,) * 7)
        for length in (41, 50):
            self.tells((1, 6 ** length), chance, chain=chain, view="f" * length)
            self.tells((1, 7 ** length), course_chance, chain=chain, view="." * length, course=(6,) * length)
            self.tells(7 ** length, possible_count, chain=chain, view="f" * length)
            self.tells((6,) * length, course_at, chain=chain, view="." * length, number=7 ** length - 1)

    def test_shares(self):
        source = random.Random(8)
        for chain in some_chains():
            above, below = chance(chain, some_view(source, chain, 6))
            self.assertTrue(0 <= above <= below)
            self.assertEqual(math.gcd(above, below), 1)


class Numbers(Calls):
    def test_examples(self):
        self.tells(2, possible_count, chain=RING, view="...")
        self.tells((0, 1, 0), course_at, chain=RING, view="...", number=0)
        self.tells((0, 1, 1), course_at, chain=RING, view="...", number=1)
        self.tells(1, possible_count, chain=RING, view="aab")
        self.tells((0, 1, 1), course_at, chain=RING, view="aab", number=0)
        self.tells(2 ** 40, possible_count, chain=FAIR, view="." * 40)
        self.tells((0,) * 37 + (1, 0, 1), course_at, chain=FAIR, view="." * 40, number=5)
        self.tells(1, possible_count, chain=FAIR, view="")
        self.tells((), course_at, chain=FAIR, view="", number=0)
        self.tells(0, possible_count, chain=RING, view="b")
        self.refuses(NoRank(2), course_at, chain=RING, view="...", number=2)
        self.refuses(NoRank(0), course_at, chain=RING, view="b", number=0)
        self.refuses(NoRank(True), course_at, chain=FAIR, view="ab", number=True)

    def test_all_courses_of_short_views(self):
        for chain in SMALL:
            for view in short_views(chain, 3):
                wanted = possible(chain, view)
                self.assertEqual(possible_count(chain, view), len(wanted))
                self.assertEqual([course_at(chain, view, number) for number in range(len(wanted))], wanted)
                for number in (len(wanted), len(wanted) + 1, -1, -len(wanted)):
                    if not 0 <= number < len(wanted):
                        self.refuses(NoRank(number), course_at, chain=chain, view=view, number=number)

    def test_possible_exactly_with_a_chance(self):
        source = random.Random(9)
        for chain in some_chains() + some_chains(400):
            for length in (0, 1, 2, 4):
                view = some_view(source, chain, length)
                wanted = possible(chain, view)
                self.tells(len(wanted), possible_count, chain=chain, view=view)
                self.assertEqual(wanted != [], chance(chain, view) != (0, 1))
                for number in {0, len(wanted) // 2, len(wanted) - 1} if wanted else ():
                    self.tells(wanted[number], course_at, chain=chain, view=view, number=number)
                self.refuses(NoRank(len(wanted)), course_at, chain=chain, view=view, number=len(wanted))

    def test_forty_gaps(self):
        self.tells(6 ** 40, possible_count, chain=SIX, view="." * 40)
        for number in (0, 1, 35, 36, 6 ** 39, 5 * 6 ** 39 - 1, 123456789 ** 3, 6 ** 40 - 1):
            wanted = tuple(number // 6 ** place % 6 for place in reversed(range(40)))
            self.tells(wanted, course_at, chain=SIX, view="." * 40, number=number)
        for number in (6 ** 40, 6 ** 41, -1):
            self.refuses(NoRank(number), course_at, chain=SIX, view="." * 40, number=number)
        one, other = 1, 1
        for _ in range(39):
            one, other = other, one + other
        self.tells(one, possible_count, chain=RING, view="." * 40)
        self.tells((0, 1) * 20, course_at, chain=RING, view="." * 40, number=0)
        self.tells((0,) + (1,) * 39, course_at, chain=RING, view="." * 40, number=one - 1)
        self.refuses(NoRank(one), course_at, chain=RING, view="." * 40, number=one)

    def test_signs_and_gaps(self):
        self.tells(1, possible_count, chain=WORN, view="b" * 40)
        self.tells((1,) * 40, course_at, chain=WORN, view="b" * 40, number=0)
        self.tells(41, possible_count, chain=WORN, view="a" * 40)
        for number in range(41):
            wanted = (0,) * (40 - number) + (1,) * number
            self.tells(wanted, course_at, chain=WORN, view="a" * 20 + "." * 20, number=number)

    def test_no_numbers(self):
        for chain, view in ((FAIR, "ab"), (FAIR, ""), (FAIR, "." * 20), (RING, "b"), (ONE, "z")):
            for number in NO_NUMBERS:
                self.refuses(NoRank(number), course_at, chain=chain, view=view, number=number)
        told = NoRank([1, (2, {"a": None})])
        self.refuses(NoRank(told), course_at, chain=FAIR, view="ab", number=told)

    def test_just_what_was_given_is_kept(self):
        for number in ([1], {"a": [1]}, (1, [2]), 10 ** 399, "x" * 100):
            with self.assertRaises(NoRank) as caught:
                course_at(FAIR, "ab", number)
            self.assertIs(caught.exception.given, number)


class WhatHolds(Calls):
    def test_a_sign_behind(self):
        source = random.Random(10)
        for chain in some_chains() + [WORN, FAIR, RING, ONE, SIX]:
            for length in (0, 1, 3, 39):
                view = some_view(source, chain, length)
                told = chance(chain, view)
                self.assertEqual(sum(ratio(chance(chain, view + sign)) for sign in chain[0]), ratio(told))
                self.assertEqual(chance(chain, view + "."), told)

    def test_a_gap_stands_for_all_signs(self):
        source = random.Random(11)
        for chain in some_chains() + [WORN, FAIR, RING, ONE, SIX]:
            for length in (1, 5, 40):
                view = some_view(source, chain, length)
                for place in {0, length // 2, length - 1}:
                    ahead, behind = view[:place], view[place + 1:]
                    told = sum(ratio(chance(chain, ahead + sign + behind)) for sign in chain[0])
                    self.assertEqual(told, ratio(chance(chain, ahead + "." + behind)))

    def test_rows_of_one_length(self):
        for chain in SMALL:
            for length in range(4):
                rows = [view for view in short_views(chain, length) if len(view) == length and "." not in view]
                self.assertEqual(len(rows), len(chain[0]) ** length)
                self.assertEqual(sum(ratio(chance(chain, row)) for row in rows), fractions.Fraction(1))

    def test_chains_with_the_same_shares(self):
        source = random.Random(12)
        for chain in some_chains() + [WORN, FAIR, RING, ONE, SIX]:
            for length in (0, 1, 3, 40):
                view = some_view(source, chain, length)
                course = tuple(source.randrange(len(chain[1])) for _ in view)
                count = possible_count(chain, view)
                for other in (multiplied(chain), plain(chain)):
                    self.tells(chance(chain, view), chance, chain=other, view=view)
                    self.tells(course_chance(chain, view, course), course_chance, chain=other, view=view, course=course)
                    self.tells(count, possible_count, chain=other, view=view)
                    for number in {0, count // 2, count - 1} if count else ():
                        self.tells(course_at(chain, view, number), course_at, chain=other, view=view, number=number)
