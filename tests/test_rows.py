import fractions
import itertools
import random

from helpers import Calls
from samples import (
    EVEN, FAIR, HOP, ONE, RING, SIX, STILL, TWIN, WORN, ahead_worths, multiplied, pair, part, ratio, small_chains,
    some_chain, some_chains, some_view, summed, told_part,
)

from veiledchains.chains import plain
from veiledchains.courses import chance
from veiledchains.errors import Unfit
from veiledchains.rows import never_row, row_at, rows_ahead

SMALL = small_chains()
MANY = some_chains() + SMALL + [SIX]
FRACTION = fractions.Fraction


def rows_of(chain, length):
    return ["".join(signs) for signs in itertools.product(chain[0], repeat=length)]


def ahead_by_beginnings(chain, row):
    """The chances of the rows ahead, as a Fraction, by the place at which they part from row."""
    states = range(len(chain[1]))
    table = ahead_worths(chain, row)
    total = FRACTION(0)
    for place, sign in enumerate(row):
        come = [part(chain[1], state) for state in states]
        if place:
            worths = list(zip(table[place - 1], chain[2]))
            come = [sum(worth * part(line, state) for worth, line in worths) for state in states]
        for lesser in chain[0][:chain[0].index(sign)]:
            total += sum(come[state] * told_part(chain, state, lesser) for state in states)
    return total


def never_by_rows(chain):
    """The least row that never comes: by the chances of rows, shorter ones first.

    Of rows that leave the chain in the same states only the first one is led on.
    """
    reached = [""]
    seen = set()
    for row in reached:
        for sign in chain[0]:
            told = tuple(worth > 0 for worth in ahead_worths(chain, row + sign)[-1])
            if not any(told):
                return row + sign
            if told not in seen:
                seen.add(told)
                reached.append(row + sign)
    return None


def lots(masks, states):
    return tuple(tuple(mask >> state & 1 for state in range(states)) for mask in masks)


def counting(start, steps, tells):
    """A chain by bits: where it begins, where each state leads, which states tell each sign."""
    states = len(steps)
    lines = tuple(zip(*lots(tells, states)))
    return ("abcde"[:len(tells)], lots([start], states)[0], lots(steps, states), lines)


COUNTING = [
    ("b", counting(1, (1,), (1, 0))),
    ("aa", counting(2, (2, 1), (2, 3))),
    ("abab", counting(7, (5, 1, 6), (3, 6))),
    ("acbabbca", counting(15, (3, 9, 12, 6), (12, 11, 7))),
    ("accbaaccabaac", counting(29, (17, 3, 8, 14, 5), (30, 25, 23))),
    ("abbbaabaabbaabaabbba", counting(63, (17, 33, 10, 12, 38, 18), (45, 54))),
]


class Ahead(Calls):
    def test_examples(self):
        for row, wanted in (("aa", (0, 1)), ("ab", (25, 64)), ("ba", (5, 8)), ("bb", (163, 192)), ("", (0, 1))):
            self.tells(wanted, rows_ahead, chain=FAIR, row=row)

    def test_all_rows_of_short_lengths(self):
        for chain in SMALL:
            for length in range(5):
                total = FRACTION(0)
                for row in rows_of(chain, length):
                    self.assertEqual(rows_ahead(chain, row), pair(total))
                    total += summed(chain, row)
                self.assertEqual(total, 1)

    def test_all_chains(self):
        source = random.Random(51)
        for chain in MANY + some_chains(400)[::4]:
            for length in (0, 1, 3) if max(chain[1]) > 1000 else (0, 1, 2, 9, 40):
                for row in (some_view(source, chain, length, 0), chain[0][0] * length, chain[0][-1] * length):
                    self.tells(pair(ahead_by_beginnings(chain, row)), rows_ahead, chain=chain, row=row)

    def test_first_and_next_rows(self):
        for chain in MANY:
            self.tells((0, 1), rows_ahead, chain=chain, row=chain[0][0] * 40)
            for length in (1, 2, 3):
                every = rows_of(chain, length)
                for row, other in zip(every[:20], every[1:21]):
                    step = ratio(rows_ahead(chain, other)) - ratio(rows_ahead(chain, row))
                    self.assertEqual(pair(step), chance(chain, row))
                last = ratio(rows_ahead(chain, every[-1])) + ratio(chance(chain, every[-1]))
                self.assertEqual(last, 1)


class At(Calls):
    def test_examples(self):
        for share, wanted in (((0, 1), "aa"), ((25, 64), "ab"), ((1, 2), "ab"), ((5, 8), "ba"), ((9, 10), "bb")):
            self.tells(wanted, row_at, chain=FAIR, length=2, share=share)
        self.tells("ab", row_at, chain=RING, length=2, share=(1, 2))
        self.tells("", row_at, chain=FAIR, length=0, share=(1, 3))
        self.refuses(Unfit(), row_at, chain=FAIR, length=2, share=(1, 1))
        self.refuses(Unfit(), row_at, chain=FAIR, length=2, share=(-1, 5))

    def test_edges_and_between(self):
        tiny = FRACTION(1, 10 ** 80)
        for chain in SMALL:
            for length in range(4):
                total = FRACTION(0)
                for row in rows_of(chain, length):
                    worth = summed(chain, row)
                    if worth:
                        for share in (total, total + worth / 2, total + worth - tiny):
                            self.assertEqual(row_at(chain, length, pair(share)), row)
                    total += worth
                self.assertEqual(total, 1)

    def test_there_and_back(self):
        source = random.Random(52)
        for chain in MANY + some_chains(400)[::4]:
            for length in (0, 1, 3) if max(chain[1]) > 1000 else (0, 1, 2, 9, 40):
                for share in ((0, 1), (1, 3), (10 ** 30 - 1, 10 ** 30), (source.randrange(97), 97), (1, 10 ** 399)):
                    row = row_at(chain, length, share)
                    self.tells(row, row_at, chain=chain, length=length, share=share)
                    self.assertEqual(len(row), length)
                    ahead = ahead_by_beginnings(chain, row)
                    self.assertLessEqual(ahead, ratio(share))
                    self.assertLess(ratio(share), ahead + summed(chain, row))
                    self.tells(row, row_at, chain=chain, length=length, share=rows_ahead(chain, row))

    def test_rows_that_never_come(self):
        # b comes never: a share that is just what stands ahead of "b" is no share below 1.
        self.tells((1, 1), rows_ahead, chain=STILL, row="b")
        self.refuses(Unfit(), row_at, chain=STILL, length=1, share=rows_ahead(STILL, "b"))
        middle = ("abc", (1,), ((1,),), ((1, 0, 1),))
        self.assertEqual(rows_ahead(middle, "b"), rows_ahead(middle, "c"))
        self.tells("c", row_at, chain=middle, length=1, share=rows_ahead(middle, "b"))
        self.tells("ca", row_at, chain=middle, length=2, share=rows_ahead(middle, "ba"))
        self.tells("ca", row_at, chain=middle, length=2, share=rows_ahead(middle, "bc"))

    def test_unfit_exactly_below_0_and_from_1_on(self):
        for chain in (FAIR, RING, ONE, SIX):
            for length in (0, 1, 40):
                for share in ((-1, 1), (-1, 2), (-1, 10 ** 399), (-(10 ** 399), 1), (1, 1), (2, 1), (3, 2),
                              (10 ** 399, 1), (10 ** 399 + 1, 10 ** 399)):
                    self.refuses(Unfit(), row_at, chain=chain, length=length, share=share)
                for share in ((0, 1), (1, 2), (1, 10 ** 399), (10 ** 399 - 1, 10 ** 399)):
                    self.assertEqual(len(row_at(chain, length, share)), length)

    def test_lengths(self):
        for length in (0, 1, 39, 40, 41, 50):
            self.tells("z" * length, row_at, chain=ONE, length=length, share=(3, 7))
            self.tells("a" * length, row_at, chain=FAIR, length=length, share=(0, 1))
            self.tells("b" * length, row_at, chain=FAIR, length=length, share=(10 ** 99 - 1, 10 ** 99))


class Never(Calls):
    def test_examples(self):
        self.tells(None, never_row, chain=FAIR)
        self.tells("b", never_row, chain=RING)
        self.tells("bb", never_row, chain=HOP)
        self.tells(None, never_row, chain=("a", (1,), ((1,),), ((1,),)))

    def test_every_string(self):
        """Shorter ones first, each by its chance."""
        for chain in SMALL + some_chains():
            told = never_row(chain)
            length = 0
            while told is None and length < 5 or told is not None and length <= min(6, len(told)):
                for row in rows_of(chain, length):
                    if row == told:
                        break
                    self.assertNotEqual(summed(chain, row), 0)
                length += 1
            if told is not None:
                self.assertEqual(summed(chain, told), 0)
            self.tells(told, never_row, chain=chain)

    def test_chains_with_many_noughts(self):
        source = random.Random(53)
        found = {}
        for _ in range(400):
            states, signs = source.randrange(1, 7), source.randrange(1, 4)
            drawn = some_chain(source, states, signs)
            tells = tuple(tuple(0 if at and source.random() < 0.3 else weight for at, weight in enumerate(line))
                          for line in drawn[3])
            tells = tuple(line if any(line) else (1,) + line[1:] for line in tells)
            chain = drawn[:3] + (tells,)
            wanted = never_by_rows(chain)
            self.assertEqual(never_row(chain), wanted)
            self.assertEqual(never_row(multiplied(chain)), wanted)
            found[None if wanted is None else len(wanted)] = True
        self.assertTrue({None, 1, 2, 3} <= set(found))

    def test_chains_that_count(self):
        for wanted, chain in COUNTING:
            self.assertEqual(never_by_rows(chain), wanted)
            for other in (chain, multiplied(chain)):
                self.tells(wanted, never_row, chain=other)
            self.assertLess(len(wanted), 2 ** len(chain[1]))
            self.assertEqual(summed(chain, wanted), 0)
            self.assertNotEqual(summed(chain, wanted[:-1]), 0)

    def test_a_sign_that_no_state_tells_and_a_state_that_never_is(self):
        self.tells("b", never_row, chain=("abc", (1, 1), ((1, 1), (1, 1)), ((1, 0, 1), (2, 0, 5))))
        self.tells("c", never_row, chain=("abc", (1, 0), ((1, 0), (1, 1)), ((1, 1, 0), (1, 1, 1))))
        self.tells(None, never_row, chain=("abc", (1, 0), ((1, 1), (1, 1)), ((1, 1, 1), (1, 1, 1))))
        # The state 2 alone tells a behind c, and never comes.
        aside = ("abc", (1, 1, 0), ((1, 1, 0), (0, 1, 0), (1, 1, 1)), ((1, 1, 0), (0, 1, 1), (1, 1, 1)))
        self.tells("ca", never_row, chain=aside)

    def test_great_weights(self):
        for chain in some_chains(400):
            self.tells(never_by_rows(plain(chain)), never_row, chain=chain)


class WhatHolds(Calls):
    def test_chains_with_the_same_shares(self):
        source = random.Random(54)
        for chain in MANY:
            for length in (0, 1, 3, 40):
                row = some_view(source, chain, length, 0)
                for other in (multiplied(chain), plain(chain)):
                    self.tells(rows_ahead(chain, row), rows_ahead, chain=other, row=row)
                    self.tells(row_at(chain, length, (2, 3)), row_at, chain=other, length=length, share=(2, 3))
                    self.tells(never_row(chain), never_row, chain=other)

    def test_the_same_calls_again(self):
        chains = (FAIR, RING, TWIN, EVEN, WORN)
        self.tells_again(rows_ahead, [{"chain": chain, "row": row} for chain in chains for row in ("ab", "", "bba")])
        self.tells_again(row_at, [
            {"chain": chain, "length": length, "share": share} for chain in chains for length in (0, 3)
            for share in ((0, 1), (2, 3), (1, 1))])
        self.tells_again(never_row, [{"chain": chain} for chain in chains])
