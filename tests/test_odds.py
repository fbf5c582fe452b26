import fractions
import itertools
import random

from helpers import VALUES, Calls
from samples import (
    EVEN, FAIR, HOP, ONE, RING, SIX, STILL, TWIN, WORN, multiplied, pair, parted, ratio, rows_to, small_chains, some_chain,
    some_view, summed,
)

from veiledchains.alike import alike
from veiledchains.chains import plain
from veiledchains.courses import chance
from veiledchains.errors import Never, Unfit
from veiledchains.making import behind_view
from veiledchains.odds import apart_by, best_test, least_slip, sharpest, slips, test_error, told_by

FLAT = ("ab", (1,), ((1,),), ((5, 3),))
JUST_A = ("ab", (1,), ((1,),), ((1, 0),))
JUST_B = ("ab", (1,), ((1,),), ((0, 1),))
COIN = ("ab", (1,), ((1,),), ((1, 1),))
OTHER = ("ac",) + WORN[1:]
FRACTION = fractions.Fraction
WEIGHTS = ((1, 1), (0, 1), (1, 0), (0, 7), (2, 5), (10 ** 399, 3), (10 ** 30, 10 ** 30 + 1))
SHARES = ((0, 1), (1, 1), (1, 2), (1, 3), (1, 20), (19, 20), (1, 10 ** 30), (7, 64), (9, 64))


def rows_of(chain, length):
    return ["".join(signs) for signs in itertools.product(chain[0], repeat=length)]


def table(one, other, length):
    """For each row, ascending: its chance by one and by other, as Fractions."""
    return [(row, summed(one, row), summed(other, row)) for row in rows_of(one, length)]


def pairs_of_chains():
    """Chains with the same signs, at most three, and how long the rows are that can be gone through."""
    source = random.Random(181)
    ab = [WORN, FLAT, JUST_A, JUST_B, COIN, FAIR, RING, TWIN, EVEN, STILL, HOP]
    for one, other in itertools.product(ab, repeat=2):
        yield one, other, 3
    for chain in small_chains():
        if len(chain[0]) <= 3:
            yield chain, (chain[0],) + some_chain(source, source.randrange(1, 4), len(chain[0]))[1:], 3 if len(chain[0]) < 3 else 2
            yield chain, multiplied(chain), 2
            yield chain, parted(chain, 0), 2


def weighted(first, second, one, other):
    """The mean of two shares by these weights."""
    return (first * one + second * other) / FRACTION(first + second)


class ToldBy(Calls):
    def test_examples(self):
        for first, second, view, wanted in (
            (1, 1, "", (1, 2)), (1, 1, "a", (1, 2)), (1, 1, "bb", (2, 3)), (1, 1, "ba", (2, 7)), (1, 3, "bb", (2, 5)),
        ):
            self.tells(wanted, told_by, one=WORN, other=FLAT, first=first, second=second, view=view)
        self.tells((0, 1), told_by, one=JUST_A, other=FLAT, first=1, second=9, view="ab")
        self.tells((1, 1), told_by, one=JUST_A, other=FLAT, first=1, second=0, view="a.")
        self.tells((1, 1), told_by, one=FLAT, other=JUST_A, first=1, second=1, view="b")
        self.refuses(Never(), told_by, one=JUST_A, other=JUST_A, first=1, second=1, view="b")
        self.refuses(Unfit(), told_by, one=WORN, other=("ac",) + FLAT[1:], first=1, second=1, view="")

    def check(self, one, other, first, second, view):
        mine, yours = first * summed(one, view), second * summed(other, view)
        given = dict(one=one, other=other, first=first, second=second, view=view)
        if mine + yours == 0:
            self.refuses(Never(), told_by, **given)
            return None
        wanted = mine / (mine + yours)
        self.tells(pair(wanted), told_by, **given)
        return wanted

    def test_beside_the_chances(self):
        source = random.Random(182)
        never = 0
        for one, other, _ in pairs_of_chains():
            for first, second in WEIGHTS:
                never += self.check(one, other, first, second, some_view(source, one, source.randrange(4))) is None
            self.check(multiplied(one), plain(other), 3, 4, some_view(source, one, 40))
        self.assertGreater(never, 50)

    def test_never_exactly_where_neither_can_tell(self):
        for one, other, first, second, view, never in (
            (JUST_A, FLAT, 1, 0, "b", True), (FLAT, JUST_A, 0, 1, "b", True), (JUST_A, FLAT, 0, 1, "b", False),
            (FLAT, JUST_A, 1, 0, "b", False), (JUST_A, JUST_B, 1, 1, "ab", True), (JUST_A, JUST_B, 1, 1, "b.", False),
            (JUST_A, JUST_B, 1, 0, "b.", True), (HOP, STILL, 5, 5, "bb", True), (HOP, RING, 5, 5, "bb", True),
            (JUST_A, JUST_A, 0, 1, "", False),
        ):
            self.assertIs(self.check(one, other, first, second, view) is None, never)

    def test_unlike_signs_ahead_of_all_else(self):
        for one, other in ((WORN, OTHER), (OTHER, WORN), (STILL, ("abc", (1,), ((1,),), ((0, 1, 1),))), (ONE, SIX), (SIX, ONE)):
            for view in ("", ".", one[0][-1], "." * 40):
                for first, second in ((1, 1), (0, 1), (1, 0)):
                    self.refuses(Unfit(), told_by, one=one, other=other, first=first, second=second, view=view)
            for length in (0, 1, 2):
                row = one[0][0] * length
                self.refuses(Unfit(), slips, one=one, other=other, test=(row,), length=length)
                self.refuses(Unfit(), best_test, one=one, other=other, first=1, second=1, length=length)
                self.refuses(Unfit(), least_slip, one=one, other=other, first=0, second=1, length=length)
                self.refuses(Unfit(), sharpest, one=one, other=other, length=length, most=(1, 2))
                self.refuses(Unfit(), apart_by, one=one, other=other, length=length)

    def test_sign_by_sign(self):
        source = random.Random(183)
        for one, other, _ in list(pairs_of_chains())[::3]:
            for length in (1, 2, 4):
                view = some_view(source, one, length, 2)
                mine, yours = summed(one, view), summed(other, view)
                if mine and yours:
                    first, second = source.randrange(1, 9), source.randrange(1, 9)
                    left, right = first * mine, second * yours
                    weights = int(left * right.denominator * left.denominator), int(right * right.denominator * left.denominator)
                    for sign in one[0] + ".":
                        if first * summed(one, view + sign) + second * summed(other, view + sign):
                            wanted = told_by(one, other, first, second, view + sign)
                            self.tells(wanted, told_by, one=behind_view(one, view), other=behind_view(other, view),
                                       first=weights[0], second=weights[1], view=sign)

    def test_nothing_is_won_in_the_mean(self):
        for one, other, longest in list(pairs_of_chains())[::2]:
            for first, second in WEIGHTS[:5]:
                mean = FRACTION(0)
                for row, mine, yours in table(one, other, longest):
                    if first * mine + second * yours:
                        mean += weighted(first, second, mine, yours) * ratio(told_by(one, other, first, second, row))
                self.assertEqual(mean, FRACTION(first, first + second))

    def test_great_weights(self):
        source = random.Random(184)
        one = some_chain(source, 3, 2, 400)
        other = (one[0],) + some_chain(source, 2, 2, 400)[1:]
        self.check(one, other, 10 ** 400 - 1, 10 ** 399, some_view(source, one, 3))


class Tests(Calls):
    def test_examples(self):
        for value, wanted in (
            ((), None), (("ab", "bb"), None), (("bb", "ab"), ("order", 1)), (("ab", "ab"), ("order", 1)), (("ab", "b"), ("row", 1)),
            (("ab", "a."), ("row", 1)), (["ab"], "form"), (("ab", None), ("row", 1)),
        ):
            self.tells(wanted, test_error, one=WORN, length=2, value=value)
        for test, length, wanted in (
            (("ab", "bb"), 2, ((7, 16), (3, 8))), ((), 2, ((1, 1), (0, 1))), (("",), 0, ((0, 1), (1, 1))),
        ):
            self.tells(wanted, slips, one=WORN, other=FLAT, test=test, length=length)

    def test_the_told_order(self):
        for length, value, wanted in (
            (1, ("b", "a", "c"), ("row", 2)), (1, ("b", "b", "aa"), ("row", 2)), (1, ("b", "a", "a"), ("order", 1)),
            (1, ("a", "b", "b"), ("order", 2)), (1, ("a", "b", "a"), ("order", 2)), (2, ("aa", "ba", "ab", "bb", "ab"), ("order", 2)),
            (2, ("c", "ba", "ab"), ("row", 0)), (2, ("aa", "ab", "ba", "bb"), None), (0, ("",), None), (0, ("", ""), ("order", 1)),
            (0, ("a",), ("row", 0)), (0, (), None), (1, ("",), ("row", 0)), (1, (".",), ("row", 0)), (1, ("A",), ("row", 0)),
            (5, ("aabba", "bbbbb"), None), (5, ("bbbbb", "aabba"), ("order", 1)), (5, ("aabba", "bbbb"), ("row", 1)),
            (2, (("a", "b"),), ("row", 0)), (2, (["a", "b"],), ("row", 0)), (1, ("a", "ab"[:1]), ("order", 1)),
            (2, ("ab", "a b"), ("row", 1)), (2, ("a\n",), ("row", 0)), (1, (1,), ("row", 0)), (1, (True,), ("row", 0)),
            (1, "ab", "form"), (1, {"a": True}, "form"), (1, ["a"], "form"), (1, None, "form"), (1, 0, "form"), (1, True, "form"),
        ):
            self.tells(wanted, test_error, one=WORN, length=length, value=value)
        for length in range(6):
            rows = tuple(rows_of(WORN, length))
            self.tells(None, test_error, one=WORN, length=length, value=rows)
            self.tells(("row", len(rows)), test_error, one=WORN, length=length, value=rows + ("c" * (length + 1),))
            self.tells(("order", len(rows)), test_error, one=WORN, length=length, value=rows + rows[:1])
        self.tells(None, test_error, one=SIX, length=3, value=tuple(rows_of(SIX, 3)))
        self.tells(("row", 3), test_error, one=ONE, length=1, value=("z", "z", "z", "a"))

    def test_values_of_all_kinds(self):
        for value in VALUES:
            if value != ():
                wanted = ("row", 0) if isinstance(value, tuple) else "form"
                self.tells(wanted, test_error, one=WORN, length=1, value=value)
            self.tells(("row", 1), test_error, one=WORN, length=1, value=("a", value, "b"))
            if value != "":
                self.tells(("row", 0), test_error, one=WORN, length=0, value=(value,))

    def all_tests(self, chain, length):
        rows = rows_of(chain, length)
        for many in range(len(rows) + 1):
            yield from itertools.combinations(rows, many)

    def worths(self, rows, test):
        return (sum((mine for row, mine, _ in rows if row not in test), FRACTION(0)),
                sum((yours for row, _, yours in rows if row in test), FRACTION(0)))

    def test_slips_beside_all_rows(self):
        source = random.Random(185)
        for one, other, longest in pairs_of_chains():
            for length in (0, 1, longest):
                rows = table(one, other, length)
                for _ in range(4):
                    test = tuple(row for row, _, _ in rows if source.randrange(2))
                    wanted = tuple(map(pair, self.worths(rows, test)))
                    self.assertEqual(slips(one, other, test, length), wanted)
                self.tells(wanted, slips, one=multiplied(one), other=plain(other), test=test, length=length)

    def test_lengths_up_to_five(self):
        source = random.Random(186)
        for one, other in ((WORN, FLAT), (FAIR, RING), (TWIN, HOP)):
            for length in range(6):
                rows = table(one, other, length)
                test = tuple(row for row, _, _ in rows if source.randrange(3))
                self.tells(tuple(map(pair, self.worths(rows, test))), slips, one=one, other=other, test=test, length=length)
        rows = tuple(rows_of(SIX, 5))
        self.assertEqual(slips(SIX, SIX, rows, 5), ((0, 1), (1, 1)))
        self.assertEqual(slips(SIX, SIX, rows[:-1], 5)[0], chance(SIX, rows[-1]))

    def test_best_tests(self):
        ties = 0
        for one, other, longest in pairs_of_chains():
            for length in (0, 1, 2) if longest == 3 else (1,):
                rows = table(one, other, length)
                for first, second in WEIGHTS:
                    test = best_test(one, other, first, second, length)
                    self.assertIsNone(test_error(one, length, test))
                    least = sum((min(first * mine, second * yours) for _, mine, yours in rows), FRACTION(0)) / (first + second)
                    self.assertEqual(least_slip(one, other, first, second, length), pair(least))
                    self.assertEqual(weighted(first, second, *map(ratio, slips(one, other, test, length))), least)
                    ties += any(first * mine == second * yours > 0 for _, mine, yours in rows)
                    # No other test has less.
                    for value in self.all_tests(one, length) if first == 2 else ():
                        self.assertGreaterEqual(weighted(first, second, *self.worths(rows, value)), least)
        self.assertGreater(ties, 100)

    def test_best_by_place_and_by_name(self):
        self.tells((13, 32), least_slip, one=WORN, other=FLAT, first=1, second=1, length=2)
        self.tells((1, 2), least_slip, one=WORN, other=FLAT, first=1, second=1, length=1)
        self.tells((1, 4), least_slip, one=WORN, other=FLAT, first=1, second=3, length=2)
        self.tells((0, 1), least_slip, one=WORN, other=FLAT, first=0, second=1, length=2)
        self.tells(("ab", "bb"), best_test, one=WORN, other=FLAT, first=1, second=1, length=2)
        self.tells(("aa",), best_test, one=JUST_A, other=FLAT, first=2, second=1, length=2)
        self.assertEqual(slips(WORN, FLAT, best_test(WORN, FLAT, 1, 3, 2), 2), ((1, 1), (0, 1)))
        for one, other, longest in list(pairs_of_chains())[::4]:
            for first, second in WEIGHTS:
                given = dict(one=one, other=other, first=first, second=second, length=longest)
                self.tells(best_test(**given), best_test, **given)
                self.tells(least_slip(**given), least_slip, **given)

    def test_drawing_wins_nothing(self):
        source = random.Random(187)
        for one, other, longest in list(pairs_of_chains())[::3]:
            rows = table(one, other, longest)
            for first, second in WEIGHTS[:5]:
                drawn = [FRACTION(source.randrange(9), 8) for _ in rows]
                missed = sum((1 - share) * mine for share, (_, mine, _) in zip(drawn, rows))
                wrong = sum(share * yours for share, (_, _, yours) in zip(drawn, rows))
                least = ratio(least_slip(one, other, first, second, longest))
                self.assertGreaterEqual(weighted(first, second, missed, wrong), least)
            self.assertEqual(ratio(least_slip(one, other, 1, 1, longest)), (1 - ratio(apart_by(one, other, longest))) / 2)


class Sharpest(Calls):
    def test_examples(self):
        for most, wanted in (
            ((1, 4), ((6, 5), (7, 15), (33, 80))), ((0, 1), ((2, 1), (0, 1), (0, 1))), ((1, 1), ((2, 5), (1, 1), (1, 1))),
            ((9, 64), ((6, 5), (0, 1), (9, 32))),
        ):
            self.tells(wanted, sharpest, one=WORN, other=FLAT, length=2, most=most)
        self.tells(((8, 5), (1, 5), (1, 5)), sharpest, one=JUST_A, other=FLAT, length=1, most=(1, 8))
        self.tells(((5, 8), (0, 1), (3, 8)), sharpest, one=FLAT, other=JUST_A, length=1, most=(0, 1))
        self.tells(((1, 1), (1, 3), (1, 3)), sharpest, one=WORN, other=FLAT, length=0, most=(1, 3))

    def wanted(self, rows, most):
        """By the words of the document, and the drawn test itself."""
        odds = sorted({mine / yours for _, mine, yours in rows if yours})
        bar = next(bar for bar in odds if sum(yours for _, mine, yours in rows if yours and mine / yours > bar) <= most)
        above = sum(yours for _, mine, yours in rows if yours and mine / yours > bar)
        here = sum(yours for _, mine, yours in rows if yours and mine / yours == bar)
        part = min(FRACTION(1), (most - above) / here)
        drawn = [FRACTION(1) if not yours or mine / yours > bar else part if mine / yours == bar else FRACTION(0)
                 for _, mine, yours in rows]
        return bar, part, drawn

    def check(self, one, other, length, most):
        rows = table(one, other, length)
        bar, part, drawn = self.wanted(rows, ratio(most))
        power = sum(share * mine for share, (_, mine, _) in zip(drawn, rows))
        self.assertEqual(sharpest(one, other, length, most), (pair(bar), pair(part), pair(FRACTION(power))))
        # The false share is just most, and the power is never below it.
        self.assertEqual(sum(share * yours for share, (_, _, yours) in zip(drawn, rows)), ratio(most))
        self.assertGreaterEqual(power, ratio(most))
        return rows, power

    def test_all_rows(self):
        source = random.Random(188)
        for one, other, longest in pairs_of_chains():
            for length in (0, 1, longest):
                powers = []
                for most in sorted(SHARES, key=ratio):
                    rows, power = self.check(one, other, length, most)
                    powers.append(power)
                    # No other drawn test within most has more.
                    for _ in range(3):
                        drawn = [FRACTION(source.randrange(5), 4) for _ in rows]
                        false = sum(share * yours for share, (_, _, yours) in zip(drawn, rows))
                        if false > ratio(most):
                            drawn = [share * ratio(most) / false for share in drawn]
                        self.assertLessEqual(sum(share * mine for share, (_, mine, _) in zip(drawn, rows)), power)
                self.assertEqual(powers, sorted(powers))

    def test_just_at_and_just_beyond_the_sharpest_rows(self):
        for one, other, longest in list(pairs_of_chains())[::3]:
            rows = table(one, other, longest)
            odds = sorted({mine / yours for _, mine, yours in rows if yours}, reverse=True)
            least = FRACTION(1, 10 ** 60)
            for many in range(1, len(odds) + 1):
                whole = sum(yours for _, mine, yours in rows if yours and mine / yours in odds[:many])
                for most in (whole, whole - least, whole + least):
                    if most <= 1:
                        self.check(one, other, longest, pair(most))
                bar, part, _ = sharpest(one, other, longest, pair(whole))
                # The next odds are the bar then, and nothing of them is drawn; the last ones are drawn wholly.
                self.assertEqual((bar, part), (pair(odds[many]), (0, 1)) if many < len(odds) else (pair(odds[-1]), (1, 1)))

    def test_by_place_and_by_name(self):
        for one, other, longest in list(pairs_of_chains())[::4]:
            for most in SHARES:
                given = dict(one=one, other=other, length=longest, most=most)
                self.tells(sharpest(**given), sharpest, **given)
                self.assertEqual(sharpest(multiplied(one), plain(other), longest, most), sharpest(**given))

    def test_odds_that_are_nearly_alike(self):
        for figures in (1, 20, 199):
            near = 10 ** figures
            # The odds of the rows of one sign are a little more and a little less than 1.
            one, other = ("ab", (1,), ((1,),), ((near, near + 1),)), ("ab", (1,), ((1,),), ((near + 1, near + 2),))
            for length in (1, 2, 3):
                for most in ((0, 1), (1, 2), (1, 3), (1, 1), (1, 8)):
                    self.check(one, other, length, most)
                    self.check(other, one, length, most)

    def test_it_grows_with_the_length(self):
        for one, other, longest in list(pairs_of_chains())[::5]:
            for most in ((0, 1), (1, 7), (1, 2), (1, 1)):
                powers = [ratio(sharpest(one, other, length, most)[2]) for length in range(longest + 2)]
                self.assertEqual(powers, sorted(powers))

    def test_rows_of_five_signs(self):
        source = random.Random(189)
        for one, other in ((WORN, FLAT), (FAIR, RING), (RING, FAIR), (some_chain(source, 6, 2), None)):
            other = other or (one[0],) + some_chain(source, 6, 2)[1:]
            for most in ((1, 2), (1, 100), (1, 1)):
                self.check(one, other, 5, most)


class ApartBy(Calls):
    def test_examples(self):
        for length, wanted in ((0, (0, 1)), (1, (0, 1)), (2, (3, 16))):
            self.tells(wanted, apart_by, one=WORN, other=FLAT, length=length)
        self.tells((3, 8), apart_by, one=JUST_A, other=FLAT, length=1)
        self.tells((0, 1), apart_by, one=WORN, other=WORN, length=5)

    def test_all_rows(self):
        apart = 0
        for one, other, longest in pairs_of_chains():
            worths = []
            for length in range(longest + 1):
                rows = table(one, other, length)
                wanted = sum((abs(mine - yours) for _, mine, yours in rows), FRACTION(0)) / 2
                self.assertEqual(apart_by(one, other, length), pair(wanted))
                worths.append(wanted)
                # It is what the best test says more often rightly than wrongly.
                missed, wrong = map(ratio, slips(one, other, best_test(one, other, 1, 1, length), length))
                self.assertEqual(1 - missed - wrong, wanted)
            self.assertEqual(worths, sorted(worths))
            given = dict(one=one, other=other, length=longest)
            self.tells(pair(wanted), apart_by, **given)
            self.tells(pair(wanted), apart_by, one=other, other=one, length=longest)
            self.tells(pair(wanted), apart_by, one=multiplied(one), other=plain(other), length=longest)
            apart += wanted > 0
        self.assertGreater(apart, 100)

    def test_no_test_does_better(self):
        for one, other, _ in list(pairs_of_chains())[::4]:
            if len(one[0]) == 2:
                rows = table(one, other, 2)
                told = ratio(apart_by(one, other, 2))
                for many in range(5):
                    for test in itertools.combinations([row for row, _, _ in rows], many):
                        mine = sum(worth for row, worth, _ in rows if row in test)
                        yours = sum(worth for row, _, worth in rows if row in test)
                        self.assertLessEqual(mine - yours, told)

    def test_nought_for_chains_that_tell_alike(self):
        alike_ones = 0
        for one, other, _ in pairs_of_chains():
            if len(one[1]) + len(other[1]) <= 6 and len(one[0]) <= 2:
                told = alike(one, other) is None
                self.assertIs(apart_by(one, other, 5) == (0, 1), told)
                alike_ones += told
        self.assertGreater(alike_ones, 15)
        for chain in (WORN, TWIN, FAIR, RING, SIX):
            for length in range(4):
                self.tells((0, 1), apart_by, one=chain, other=multiplied(chain), length=length)
        self.tells((0, 1), apart_by, one=WORN, other=TWIN, length=5)

    def test_parting_by_the_fifth_sign(self):
        def late(states, ends):
            steps = tuple(tuple(int(to == min(at + 1, states - 1)) for to in range(states)) for at in range(states))
            return ("ab", (1,) + (0,) * (states - 1), steps, ((1, 0),) * (states - 1) + (ends,))

        # A chain of five states and one of one.
        for ends, wanted in (((1, 1), (1, 2)), ((1, 0), (0, 1)), ((3, 1), (1, 4))):
            self.tells((0, 1), apart_by, one=late(5, ends), other=JUST_A, length=4)
            self.tells(wanted, apart_by, one=late(5, ends), other=JUST_A, length=5)

    def test_five_signs_and_six_states(self):
        source = random.Random(190)
        one = some_chain(source, 6, 5)
        other = (one[0],) + some_chain(source, 6, 5)[1:]
        rows = list(rows_to(one[0], 3))[-125:]
        wanted = sum(abs(summed(one, row) - summed(other, row)) for row in rows) / 2
        self.tells(pair(wanted), apart_by, one=one, other=other, length=3)
        self.assertGreaterEqual(ratio(apart_by(one, other, 5)), wanted)

    def test_great_weights(self):
        source = random.Random(191)
        one = some_chain(source, 3, 2, 400)
        other = (one[0],) + some_chain(source, 2, 2, 400)[1:]
        rows = table(one, other, 3)
        wanted = sum(abs(mine - yours) for _, mine, yours in rows) / 2
        self.tells(pair(wanted), apart_by, one=one, other=other, length=3)
        Sharpest().check(one, other, 2, (1, 3))
        test = best_test(one, other, 10 ** 400 - 1, 10 ** 399, 3)
        worth = sum(min((10 ** 400 - 1) * mine, 10 ** 399 * yours) for _, mine, yours in rows) / (10 ** 400 - 1 + 10 ** 399)
        self.tells(pair(worth), least_slip, one=one, other=other, first=10 ** 400 - 1, second=10 ** 399, length=3)
        told = weighted(10 ** 400 - 1, 10 ** 399, *map(ratio, slips(one, other, test, 3)))
        self.assertEqual(told, worth)


class WhatHolds(Calls):
    def test_the_same_calls_again(self):
        chains = list(itertools.product((WORN, FLAT, JUST_A, RING), repeat=2)) + [(WORN, OTHER)]
        asked = [{"one": one, "other": other} for one, other in chains]
        self.tells_again(told_by, [dict(given, first=1, second=2, view=view) for given in asked for view in ("", "b", "a.b")])
        self.tells_again(slips, [dict(given, test=test, length=2) for given in asked for test in ((), ("ab", "bb"), ("aa",))])
        self.tells_again(apart_by, [dict(given, length=length) for given in asked for length in (0, 2)])
        self.tells_again(sharpest, [dict(given, length=2, most=most) for given in asked for most in ((0, 1), (1, 4))])
        for function in (best_test, least_slip):
            self.tells_again(function, [dict(given, first=2, second=3, length=length) for given in asked for length in (0, 2)])
        self.tells_again(test_error, [
            {"one": one, "length": length, "value": value} for one in (WORN, ONE) for length in (0, 1)
            for value in ((), ("a",), ("z",), ("",), "a", None)])
