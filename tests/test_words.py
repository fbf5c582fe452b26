import fractions
import itertools
import random

from helpers import Calls
from samples import (
    EVEN, FAIR, HOP, ONE, RING, SIX, STILL, TWIN, WORN, ever_and_mean, multiplied, pair, ratio, small_chains, some_chain,
    some_chains, some_view, summed,
)

from veiledchains.chains import plain
from veiledchains.words import first_ends, mean_wait, meets, sure_word

LAME = ("ab", (1, 1, 0), ((1, 0, 0), (0, 1, 1), (0, 0, 1)), ((1, 0), (1, 1), (0, 1)))
SMALL = small_chains()
MANY = some_chains() + SMALL + [SIX, LAME]


def rows_of(chain, length):
    return ["".join(signs) for signs in itertools.product(chain[0], repeat=length)]


def waiting(signs, word):
    """A machine for the word: its stands are the beginnings of word, found by looking at the strings."""
    beginnings = [word[:many] for many in range(len(word) + 1)]

    def longest(row):
        return max(at for at, one in enumerate(beginnings) if row.endswith(one))

    lines = [tuple(longest(one + sign) for sign in signs) for one in beginnings[:-1]]
    return (signs, 0, tuple(lines) + ((len(word),) * len(signs),), (len(word),))


def ends_of(row):
    return [row[at:] for at in range(len(row) + 1)]


def open_shares(chain, word, length):
    """By length: the share of rows in which word has not ended, as Fractions.

    Beside the state the longest end of the row is kept that is a beginning of word.
    """
    signs, start, steps, tells = chain
    table = {(state, ""): fractions.Fraction(weight, sum(start)) for state, weight in enumerate(start) if weight}
    shares = [fractions.Fraction(1)]
    for _ in range(length):
        led = {}
        for (state, end), worth in table.items():
            for at, sign in enumerate(signs):
                told = worth * fractions.Fraction(tells[state][at], sum(tells[state]))
                row = next(row for row in ends_of(end + sign) if word.startswith(row))
                if told and row != word:
                    for other, weight in enumerate(steps[state]):
                        if weight:
                            share = told * fractions.Fraction(weight, sum(steps[state]))
                            led[other, row] = led.get((other, row), 0) + share
        table = led
        shares.append(sum(led.values(), fractions.Fraction(0)))
    return shares


def words_of(source, chain):
    yield from chain[0][:2]
    one, other = source.choice(chain[0]), source.choice(chain[0])
    yield from (one * 4, (one + other) * 2, (one + one + other) * 2, one + other, other * 6)
    yield some_view(source, chain, 6, 0)


class Meets(Calls):
    def test_examples(self):
        for length, wanted in ((2, (15, 64)), (3, (359, 768)), (1, (0, 1)), (0, (0, 1))):
            self.tells(wanted, meets, chain=FAIR, word="ab", length=length)
        self.tells(((0, 1), (1, 2), (1, 8), (5, 32)), first_ends, chain=RING, word="ab", length=4)
        self.tells((25, 32), meets, chain=RING, word="ab", length=4)
        self.tells((), first_ends, chain=RING, word="ab", length=0)
        self.tells(((0, 1), (25, 64), (211, 1536)), first_ends, chain=FAIR, word="aa", length=3)
        self.tells((811, 1536), meets, chain=FAIR, word="aa", length=3)
        self.tells(((1, 4), (3, 16), (3, 64)), first_ends, chain=LAME, word="b", length=3)

    def test_all_rows(self):
        """To six signs, for chains of two signs; to four for others."""
        source = random.Random(91)
        for chain in SMALL + [LAME]:
            longest = 6 if len(chain[0]) <= 2 else 4
            worths = {row: summed(chain, row) for length in range(longest + 1) for row in rows_of(chain, length)}
            for word in sorted(set(words_of(source, chain))):
                firsts = []
                for length in range(longest + 1):
                    rows = rows_of(chain, length)
                    wanted = sum((worths[row] for row in rows if word in row), fractions.Fraction(0))
                    self.assertEqual(meets(chain, word, length), pair(wanted))
                    if length:
                        fresh = [worths[row] for row in rows if word in row and word not in row[:-1]]
                        firsts.append(pair(sum(fresh, fractions.Fraction(0))))
                    self.assertEqual(first_ends(chain, word, length), tuple(firsts))

    def test_all_lengths(self):
        source = random.Random(92)
        for chain in MANY[::2] + [LAME, SIX]:
            for word in words_of(source, chain):
                left = open_shares(chain, word, 40)
                for length in (0, 1, len(word) - 1, len(word), 40):
                    self.tells(pair(1 - left[length]), meets, chain=chain, word=word, length=length)
                firsts = tuple(pair(left[many] - left[many + 1]) for many in range(40))
                self.tells(firsts, first_ends, chain=chain, word=word, length=40)
                self.tells(firsts[:3], first_ends, chain=chain, word=word, length=3)

    def test_words_that_never_come(self):
        for chain, word in ((STILL, "b"), (STILL, "ab"), (HOP, "bb"), (HOP, "abba"), (RING[:1] + ((1, 0),) + (
                ((0, 1), (1, 0)), ((1, 0), (0, 1))), "aa")):
            for length in (0, 1, 6, 40):
                self.tells((0, 1), meets, chain=chain, word=word, length=length)
                self.tells(((0, 1),) * length, first_ends, chain=chain, word=word, length=length)

    def test_lengths_less_than_the_word(self):
        for word in ("a", "ab", "aab", "aaaa", "ababa", "aabaab"):
            for length in range(len(word)):
                self.tells((0, 1), meets, chain=FAIR, word=word, length=length)
                self.tells(((0, 1),) * length, first_ends, chain=FAIR, word=word, length=length)
            self.assertEqual(meets(FAIR, word, len(word)), pair(summed(FAIR, word)))

    def test_sums(self):
        source = random.Random(93)
        for chain in MANY:
            for word in words_of(source, chain):
                firsts = list(map(ratio, first_ends(chain, word, 12)))
                told = [ratio(meets(chain, word, length)) for length in range(13)]
                self.assertEqual(told, [sum(firsts[:length]) for length in range(13)])
                self.assertEqual(told, sorted(told))

    def test_one_sign(self):
        for chain in MANY:
            for at, sign in enumerate(chain[0]):
                for length in (0, 1, 3, 40):
                    left = open_shares(chain, sign, length)[length]
                    self.tells(pair(1 - left), meets, chain=chain, word=sign, length=length)


class Waits(Calls):
    def test_examples(self):
        self.tells(True, sure_word, chain=RING, word="ab")
        for chain, word, wanted in (
                (RING, "ab", (7, 2)), (RING, "bb", (31, 2)), (RING, "aa", (4, 1)), (FAIR, "b", (8, 3)), (LAME, "b", None)):
            self.tells(wanted, mean_wait, chain=chain, word=word)
        self.tells(False, sure_word, chain=LAME, word="b")
        self.tells(False, sure_word, chain=HOP, word="bb")

    def test_equations(self):
        source = random.Random(94)
        found = {}
        for chain in some_chains()[::3] + SMALL + [LAME]:
            for word in words_of(source, chain):
                ever, mean = ever_and_mean(chain, waiting(chain[0], word))
                self.tells(ever == 1, sure_word, chain=chain, word=word)
                wanted = None if mean is None else pair(fractions.Fraction(mean))
                self.tells(wanted, mean_wait, chain=chain, word=word)
                if mean is not None:
                    self.assertGreaterEqual(mean, len(word))
                found[0 if ever == 0 else 1 if ever == 1 else 2] = True
        self.assertEqual(set(found), {0, 1, 2})

    def test_states_that_are_never_left(self):
        still = ((1, 0), (0, 1))
        tells = ((1, 0), (1, 1))
        self.tells(False, sure_word, chain=("ab", (1, 1), still, tells), word="b")
        self.tells(True, sure_word, chain=("ab", (0, 1), still, tells), word="b")
        self.tells((2, 1), mean_wait, chain=("ab", (0, 1), still, tells), word="b")
        self.tells(True, sure_word, chain=("ab", (1, 1), still, tells), word="aa")
        self.tells((4, 1), mean_wait, chain=("ab", (1, 1), still, tells), word="aa")
        # Worn at last, and for ever, it tells both signs.
        self.tells(True, sure_word, chain=WORN, word="aab")
        self.tells(True, sure_word, chain=WORN, word="bbbb")

    def test_pairs_that_can_come_and_pairs_that_cannot(self):
        # Behind an a the chain is in a state that tells a alone: ab can end no more, but that state comes for sure.
        tells = ((1, 0), (0, 1), (1, 0))
        trap = ((0, 1, 1), (1, 0, 0), (0, 0, 1))
        self.tells(False, sure_word, chain=("ab", (1, 0, 0), trap, tells), word="ab")
        self.tells(None, mean_wait, chain=("ab", (1, 0, 0), trap, tells), word="ab")
        # The same state, but nothing leads to it.
        free = ((0, 1, 0), (1, 0, 0), (0, 0, 1))
        self.tells(True, sure_word, chain=("ab", (1, 0, 0), free, tells), word="ab")
        self.tells((2, 1), mean_wait, chain=("ab", (1, 0, 0), free, tells), word="ab")
        self.tells(False, sure_word, chain=("ab", (1, 0, 1), free, tells), word="ab")
        # It can be come to only when the word has ended.
        late = ((0, 1, 0), (0, 0, 1), (0, 0, 1))
        self.tells(True, sure_word, chain=("ab", (1, 0, 0), late, tells), word="ab")
        self.tells((2, 1), mean_wait, chain=("ab", (1, 0, 0), late, tells), word="ab")
        # The word can end from there at first, but no more behind an a too many.
        once = ("ab", (1, 0), ((1, 1), (0, 1)), ((0, 1), (1, 0)))
        self.tells(True, sure_word, chain=once, word="ba")
        self.tells(False, sure_word, chain=once, word="bba")

    def test_six_signs_and_six_states(self):
        coin = ("ab", (1,) * 6, ((1, 2, 3, 4, 5, 6),) * 6, ((1, 1),) * 6)
        for word, wanted in (("aaaaaa", 126), ("ababab", 84), ("aabaab", 72), ("aaaaab", 64), ("aaabaa", 70)):
            self.tells((wanted, 1), mean_wait, chain=coin, word=word)
            self.tells(True, sure_word, chain=coin, word=word)
        source = random.Random(95)
        for signs in (2, 5):
            chain = some_chain(source, 6, signs)
            for word in (chain[0][0] * 6, chain[0][:2] * 3, some_view(source, chain, 6, 0)):
                ever, mean = ever_and_mean(chain, waiting(chain[0], word))
                self.tells(None if mean is None else pair(mean), mean_wait, chain=chain, word=word)
                self.tells(ever == 1, sure_word, chain=chain, word=word)

    def test_least_waits(self):
        self.tells((1, 1), mean_wait, chain=ONE, word="z")
        self.tells((6, 1), mean_wait, chain=ONE, word="zzzzzz")
        self.tells((3, 1), mean_wait, chain=STILL, word="aaa")
        self.tells((6, 1), mean_wait, chain=("ab", (1, 0), ((0, 1), (1, 0)), ((1, 0), (0, 1))), word="ababab")
        self.tells((7, 1), mean_wait, chain=("ab", (1, 0), ((0, 1), (1, 0)), ((1, 0), (0, 1))), word="bababa")

    def test_the_sum_of_what_is_left(self):
        """The mean is the sum over all lengths of 1 less meets: 40 lengths are never more, and here nearly all."""
        for chain, word in ((FAIR, "b"), (FAIR, "a"), (RING, "ab"), (EVEN, "a")):
            left = sum(1 - ratio(meets(chain, word, length)) for length in range(41))
            mean = ratio(mean_wait(chain, word))
            self.assertLess(left, mean)
            self.assertLess(mean - left, fractions.Fraction(1, 1000))


class WhatHolds(Calls):
    def test_chains_with_the_same_shares(self):
        source = random.Random(96)
        for chain in MANY[::3]:
            for word in words_of(source, chain):
                for other in (multiplied(chain), plain(chain)):
                    self.tells(meets(chain, word, 7), meets, chain=other, word=word, length=7)
                    self.tells(first_ends(chain, word, 7), first_ends, chain=other, word=word, length=7)
                    self.tells(sure_word(chain, word), sure_word, chain=other, word=word)
                    self.tells(mean_wait(chain, word), mean_wait, chain=other, word=word)

    def test_the_same_calls_again(self):
        asked = [{"chain": chain, "word": word} for chain in (FAIR, RING, TWIN, LAME, WORN) for word in ("a", "ab", "bba")]
        self.tells_again(sure_word, asked)
        self.tells_again(mean_wait, asked)
        asked = [dict(given, length=length) for given in asked for length in (0, 2, 5)]
        self.tells_again(meets, asked)
        self.tells_again(first_ends, asked)

    def test_great_weights(self):
        chain = some_chain(random.Random(97), 2, 2, 400)
        for word in (chain[0][0], chain[0]):
            left = open_shares(chain, word, 3)
            self.tells(pair(1 - left[3]), meets, chain=chain, word=word, length=3)
            ever, mean = ever_and_mean(chain, waiting(chain[0], word))
            self.tells(None if mean is None else pair(mean), mean_wait, chain=chain, word=word)

    def test_beyond_the_limits(self):
        wide = ("abcdef", (1,) * 7, ((1,) * 7,) * 7, ((1,) * 6,) * 7)
        self.tells((1, 6 ** 7), meets, chain=wide, word="abcdefa", length=7)
        self.tells((6 ** 7 + 6, 1), mean_wait, chain=wide, word="abcdefa")
        self.assertEqual(len(first_ends(wide, "ab", 50)), 50)
