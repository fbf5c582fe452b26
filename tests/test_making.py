import fractions
import itertools
import random

from helpers import Calls
from samples import (
    EVEN, FAIR, GREAT, HOP, ONE, RING, SIX, STILL, TWIN, WORN, ahead_worths, multiplied, part, short_views, small_chains,
    some_chain, some_chains, some_view, summed, with_idle_state,
)

from veiledchains.alike import alike
from veiledchains.along import told_ahead
from veiledchains.chains import chain_error, plain
from veiledchains.courses import chance, possible_count
from veiledchains.errors import Never, TooMany, Unfit
from veiledchains.making import behind_view, mixed, ordered, slim

FLAT = ("ab", (1,), ((1,),), ((5, 3),))
FRACTION = fractions.Fraction
SMALL = small_chains()
MANY = some_chains() + SMALL + [SIX]


def shares_of(chain):
    """All shares of a chain, as Fractions, formed as its lines."""
    def line_of(weights):
        return [part(weights, at) for at in range(len(weights))]

    return [line_of(chain[1]), [line_of(line) for line in chain[2]], [line_of(line) for line in chain[3]]]


class Ordered(Calls):
    def test_examples(self):
        self.tells(("ab", (1, 1), ((1, 0), (1, 1)), ((1, 3), (1, 0))), ordered, chain=WORN, order=(1, 0))
        self.tells(WORN, ordered, chain=WORN, order=(0, 1))

    def test_all_orders(self):
        source = random.Random(121)
        for states in range(1, 6):
            chain = some_chain(source, states, 3, 3)
            signs, start, steps, tells = chain
            for order in itertools.permutations(range(states)):
                made = ordered(chain, order)
                self.assertIsNone(chain_error(made))
                self.assertEqual(made[0], signs)
                for at, state in enumerate(order):
                    # The very weights, not made plain.
                    self.assertEqual([made[1][at], made[3][at]], [start[state], tells[state]])
                    self.assertEqual(made[2][at], tuple(steps[state][to] for to in order))
                back = tuple(order.index(state) for state in range(states))
                self.assertEqual(ordered(made, back), chain)

    def test_weights_as_they_stand(self):
        chain = ("ab", (2, 4, 0), ((2, 0, 2), (3, 3, 3), (0, 9, 0)), ((4, 0), (2, 6), (GREAT, 0)))
        made = ("ab", (0, 2, 4), ((0, 0, 9), (2, 2, 0), (3, 3, 3)), ((GREAT, 0), (4, 0), (2, 6)))
        self.tells(made, ordered, chain=chain, order=(2, 0, 1))
        self.tells(chain, ordered, chain=made, order=(1, 2, 0))
        self.tells(chain, ordered, chain=chain, order=(0, 1, 2))
        self.tells(ONE, ordered, chain=ONE, order=(0,))

    def test_six_states(self):
        source = random.Random(122)
        chain = some_chain(source, 6, 5, 400)
        for order in ((5, 4, 3, 2, 1, 0), (1, 2, 3, 4, 5, 0), (0, 2, 1, 4, 5, 3)):
            back = tuple(order.index(state) for state in range(6))
            self.tells(chain, ordered, chain=ordered(chain, order), order=back)

    def test_chances(self):
        source = random.Random(123)
        for chain in MANY:
            order = list(range(len(chain[1])))
            source.shuffle(order)
            made = ordered(chain, tuple(order))
            for view in ("", some_view(source, chain, 7), some_view(source, chain, 40)):
                self.assertEqual(chance(made, view), chance(chain, view))
            self.tells(made, ordered, chain=chain, order=tuple(order))


class Slim(Calls):
    def test_examples(self):
        self.tells((("ab", (1,), ((1,),), ((1, 3),)), (1,)), slim, chain=("ab", (0, 2), ((1, 1), (0, 3)), ((1, 0), (2, 6))))
        self.tells((WORN, (0, 1)), slim, chain=WORN)

    def test_states_that_never_come_and_that_come_late(self):
        row = tuple(tuple(int(to == min(at + 1, 5)) for to in range(6)) for at in range(6))
        back = tuple(tuple(int(to == max(at - 1, 0)) for to in range(6)) for at in range(6))
        ring = tuple(tuple(int(to == (at + 2) % 6) for to in range(6)) for at in range(6))
        for steps, start, wanted in (
            (row, (1, 0, 0, 0, 0, 0), (0, 1, 2, 3, 4, 5)), (row, (0, 0, 0, 1, 0, 0), (3, 4, 5)), (row, (0, 0, 0, 0, 0, 7), (5,)),
            (back, (0, 0, 0, 0, 0, 1), (0, 1, 2, 3, 4, 5)), (back, (0, 0, 5, 0, 0, 0), (0, 1, 2)), (back, (1,) + (0,) * 5, (0,)),
            (ring, (1, 0, 0, 0, 0, 0), (0, 2, 4)), (ring, (0, 0, 0, 1, 0, 0), (1, 3, 5)), (ring, (1, 1, 0, 0, 0, 0), (0, 1, 2, 3, 4, 5)),
            (ring, (0, 0, 3, 0, 0, 0), (0, 2, 4)), (((1,) * 6,) * 6, (0, 0, 0, 0, 1, 0), (0, 1, 2, 3, 4, 5)),
        ):
            tells = tuple((at + 1, 1) for at in range(6))
            chain = ("ab", start, steps, tells)
            self.tells(wanted, lambda chain: slim(chain)[1], chain=chain)
            self.check(chain)

    def check(self, chain):
        told = slim(chain)
        self.tells(told, slim, chain=chain)
        made, states = told
        come = {state for state in range(len(chain[1])) if chain[1][state]}
        for _ in chain[1]:
            come |= {to for state in come for to in range(len(chain[1])) if chain[2][state][to]}
        self.assertEqual(states, tuple(sorted(come)))
        self.assertIsNone(chain_error(made))
        self.assertEqual(plain(made), made)
        start, steps, tells = shares_of(chain)
        wanted = [[start[state] for state in states], [[steps[state][to] for to in states] for state in states],
                  [tells[state] for state in states]]
        self.assertEqual([made[0]] + shares_of(made), [chain[0]] + wanted)
        # What comes once comes in the slim chain, too.
        self.assertEqual(slim(made), (made, tuple(range(len(states)))))
        return made

    def test_all_chains(self):
        source = random.Random(124)
        less = 0
        for chain in MANY + [with_idle_state(chain) for chain in SMALL] + some_chains(400)[::7]:
            made = self.check(chain)
            less += len(made[1]) < len(chain[1])
            self.assertEqual(slim(multiplied(chain)), slim(chain))
            if max(chain[1]) < 1000:
                for view in ("", some_view(source, chain, 7), some_view(source, chain, 40)):
                    self.assertEqual(chance(made, view), chance(chain, view))
        self.assertGreater(less, 10)


class Mixed(Calls):
    def test_examples(self):
        made = ("ab", (1, 1, 2), ((1, 1, 0), (0, 1, 0), (0, 0, 1)), ((1, 0), (1, 3), (5, 3)))
        self.tells(made, mixed, one=WORN, other=FLAT, first=1, second=1)
        made = ("ab", (0, 1), ((1, 0), (0, 1)), ((5, 3), (5, 3)))
        self.tells(made, mixed, one=FLAT, other=FLAT, first=0, second=3)
        wide = ("ab", (1, 1, 1, 1), ((1, 1, 1, 1),) * 4, ((1, 1),) * 4)
        self.refuses(TooMany(6), mixed, one=TWIN, other=wide, first=1, second=1)

    def check(self, one, other, first, second):
        made = mixed(one, other, first, second)
        self.assertIsNone(chain_error(made))
        self.assertEqual(plain(made), made)
        many, more = len(one[1]), len(other[1])
        share = FRACTION(first, first + second)
        (start, steps, tells), (begun, gone, told) = shares_of(one), shares_of(other)
        wanted = [
            [share * worth for worth in start] + [(1 - share) * worth for worth in begun],
            [line + [0] * more for line in steps] + [[0] * many + line for line in gone], tells + told]
        self.assertEqual([made[0]] + shares_of(made), [one[0]] + wanted)
        return made

    def pairs(self, source):
        chains = [chain for chain in SMALL + some_chains() if len(chain[1]) <= 5]
        for one in chains:
            fit = [other for other in chains if other[0] == one[0] and len(one[1]) + len(other[1]) <= 6]
            yield one, (one[0],) + some_chain(source, source.randrange(1, 7 - len(one[1])), len(one[0]))[1:]
            if fit:
                yield one, source.choice(fit)

    def test_shares_and_chances(self):
        source = random.Random(125)
        six = 0
        for one, other in self.pairs(source):
            six += len(one[1]) + len(other[1]) == 6
            for first, second in ((0, 1), (1, 0), (0, 12), (5, 0), (1, 1), (2, 3), (10 ** 30, 7)):
                made = self.check(one, other, first, second)
                self.assertEqual(mixed(multiplied(one), plain(other), first, second), made)
                view = some_view(source, one, source.randrange(8))
                worth = (first * summed(one, view) + second * summed(other, view)) / FRACTION(first + second)
                self.assertEqual(FRACTION(*chance(made, view)), worth)
            self.tells(made, mixed, one=one, other=other, first=first, second=second)
        self.assertGreater(six, 3)

    def test_six_states_together(self):
        source = random.Random(126)
        for many in range(1, 6):
            one = some_chain(source, many, 2)
            other = (one[0],) + some_chain(source, 6 - many, 2)[1:]
            self.assertEqual(len(self.check(one, other, 3, 4)[1]), 6)
            more = (one[0],) + some_chain(source, 7 - many, 2)[1:]
            self.refuses(TooMany(6), mixed, one=one, other=more, first=3, second=4)
            self.refuses(TooMany(6), mixed, one=more, other=one, first=0, second=4)
        self.refuses(TooMany(6), mixed, one=SIX, other=SIX, first=1, second=0)

    def test_unlike_signs_ahead_of_too_many_states(self):
        wide = ("ac", (1,) * 6, ((1,) * 6,) * 6, ((1, 1),) * 6)
        for one, other in itertools.permutations((WORN, wide, ONE, SIX, ("a", (1,), ((1,),), ((1,),))), 2):
            self.refuses(Unfit(), mixed, one=one, other=other, first=1, second=1)
            self.refuses(Unfit(), mixed, one=one, other=other, first=0, second=1)

    def test_great_weights(self):
        source = random.Random(127)
        one = some_chain(source, 3, 2, 400)
        other = (one[0],) + some_chain(source, 3, 2, 400)[1:]
        made = self.check(one, other, 10 ** 400 - 1, 10 ** 399 + 7)
        # A chain still, though its weights have more figures than any that is handed in from elsewhere.
        self.assertGreater(max(made[1]), 10 ** 1000)
        self.tells(None, chain_error, value=made)
        self.tells(made, plain, chain=made)
        self.tells(made, ordered, chain=made, order=(0, 1, 2, 3, 4, 5))
        self.assertEqual(slim(made)[0], plain(ordered(made, slim(made)[1])))
        view = made[0][0] + "." + made[0][1]
        first, second = 10 ** 400 - 1, 10 ** 399 + 7
        worth = (first * summed(one, view) + second * summed(other, view)) / FRACTION(first + second)
        self.assertEqual(FRACTION(*chance(made, view)), worth)

    def test_what_is_mixed_is_mixed_again(self):
        source = random.Random(131)
        one = some_chain(source, 2, 2, 400)
        other, third = [(one[0],) + some_chain(source, 2, 2, 400)[1:] for _ in range(2)]
        made = self.check(self.check(one, other, 3, 5), third, GREAT, 1)
        self.tells(None, chain_error, value=made)
        self.assertIsNone(chain_error(behind_view(made, one[0] * 3)))

    def test_a_chain_mixed_with_itself(self):
        for chain in (WORN, FAIR, RING, TWIN, EVEN, HOP):
            for first, second in ((1, 2), (0, 1), (7, 0)):
                self.assertIsNone(alike(mixed(chain, chain, first, second), chain))


class BehindView(Calls):
    def test_examples(self):
        for view, start in (("a", (2, 3)), ("b", (0, 1)), ("", (1, 1)), (".", (1, 3))):
            self.tells(WORN[:1] + (start,) + WORN[2:], behind_view, chain=WORN, view=view)
        self.refuses(Never(), behind_view, chain=STILL, view="b")

    def check(self, chain, view):
        if possible_count(chain, view) == 0:
            self.refuses(Never(), behind_view, chain=chain, view=view)
            return None
        made = behind_view(chain, view)
        start, steps, tells = shares_of(chain)
        if view:
            last = ahead_worths(chain, view)[-1]
            states = range(len(start))
            start = [sum(last[state] * steps[state][to] for state in states) / sum(last) for to in states]
        self.assertEqual([made[0]] + shares_of(made), [chain[0], start, steps, tells])
        self.assertEqual(plain(made), made)
        self.assertIsNone(chain_error(made))
        return made

    def test_short_views(self):
        never = 0
        for chain in SMALL:
            for view in short_views(chain, 3):
                never += self.check(chain, view) is None
        self.assertGreater(never, 50)

    def test_views_of_forty_signs(self):
        source = random.Random(128)
        for chain in MANY[::2]:
            for gaps in (0, 1, 9):
                for length in (1, 5, 40):
                    view = some_view(source, chain, length, gaps)
                    made = self.check(chain, view)
                    if made is not None:
                        self.tells(made, behind_view, chain=chain, view=view)
                        self.assertEqual(behind_view(multiplied(chain), view), made)

    def test_views_that_never_come(self):
        for chain, view in ((STILL, "b"), (STILL, "." * 39 + "b"), (RING, "b"), (RING, "b" + "." * 39), (HOP, "bb"),
                            (HOP, "a.bb.a"), (some_chains()[0], "." * 40)):
            self.check(chain, view)
        self.refuses(Never(), behind_view, chain=HOP, view="." * 38 + "bb")

    def test_great_weights(self):
        source = random.Random(129)
        chain = some_chain(source, 3, 3, 400)
        for length in (0, 1, 4):
            view = some_view(source, chain, length, 5)
            self.tells(self.check(chain, view), behind_view, chain=chain, view=view)

    def test_further_views(self):
        source = random.Random(130)
        never = 0
        for chain in MANY:
            for length in (0, 1, 3, 20):
                view = some_view(source, chain, length, 2)
                if possible_count(chain, view) == 0:
                    continue
                made = behind_view(chain, view)
                for more in (0, 1, 2, 40 - length):
                    further = some_view(source, chain, more)
                    worth = FRACTION(*chance(chain, view + further)) / FRACTION(*chance(chain, view))
                    self.assertEqual(FRACTION(*chance(made, further)), worth)
                    if worth == 0:
                        self.refuses(Never(), behind_view, chain=made, view=further)
                        self.refuses(Never(), behind_view, chain=chain, view=view + further)
                        never += 1
                    else:
                        self.assertEqual(behind_view(made, further), behind_view(chain, view + further))
                for sign in chain[0]:
                    self.assertEqual(chance(made, sign), told_ahead(chain, view, sign))
        self.assertGreater(never, 10)


class WhatHolds(Calls):
    def test_the_same_calls_again(self):
        chains = [WORN, FAIR, RING, HOP, TWIN]
        self.tells_again(slim, [{"chain": chain} for chain in chains])
        self.tells_again(ordered, [{"chain": chain, "order": tuple(range(len(chain[1])))[::-1]} for chain in chains])
        self.tells_again(behind_view, [{"chain": chain, "view": view} for chain in chains for view in ("", "b", "a.b", "bb")])
        self.tells_again(mixed, [
            {"one": one, "other": other, "first": first, "second": 2}
            for one in chains + [ONE] for other in chains[::-1] for first in (0, 1, 5)])
