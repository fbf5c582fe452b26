import fractions
import itertools
import random

from helpers import VALUES, Calls
from samples import (
    EVEN, FAIR, HOP, ONE, RING, SIX, STILL, TWIN, WORN, moved, multiplied, part, parted, short_views, small_chains,
    some_chain, some_chains, some_view, split, summed, with_idle_state,
)

from veiledchains.alike import alike
from veiledchains.chains import chain_error, plain
from veiledchains.courses import chance
from veiledchains.lumps import coarsest, lump_error, lumped

FLAT = ("ab", (1,), ((1,),), ((5, 3),))
SLOW = ("ab", (1, 1, 1), ((1, 0, 0), (0, 1, 1), (0, 0, 1)), ((1, 0), (2, 0), (1, 3)))
DOUBLE = ("ab", (1, 2), ((1, 3), (2, 2)), ((5, 3), (10, 6)))
SMALL = small_chains()


def all_parts(states):
    """All parts of so many states."""
    if states == 0:
        yield ()
        return
    for parts in all_parts(states - 1):
        for at in range(len(parts)):
            yield parts[:at] + (parts[at] + (states - 1,),) + parts[at + 1:]
        yield parts + ((states - 1,),)


def tells_of(chain, state):
    return [part(chain[3][state], at) for at in range(len(chain[0]))]


def sum_to(chain, state, goal):
    return sum(part(chain[2][state], to) for to in goal)


def wrong(chain, parts):
    """What is first wrong with parts: by Fractions, each state beside the first one of its part."""
    for at, states in enumerate(parts):
        if any(tells_of(chain, state) != tells_of(chain, states[0]) for state in states):
            return ("tells", at)
    for at, states in enumerate(parts):
        for other, goal in enumerate(parts):
            if any(sum_to(chain, state, goal) != sum_to(chain, states[0], goal) for state in states):
                return ("steps", at, other)
    return None


def lump_chains():
    """Chains in which states can be put together, and others, of at most five states."""
    source = random.Random(111)
    yield from [chain for chain in SMALL + some_chains() if len(chain[1]) <= 4]
    for chain in SMALL:
        yield parted(chain, source.randrange(len(chain[1])))
    for sizes in ((1, 1), (2, 1), (1, 3), (2, 2), (3, 2), (2, 1, 1), (1, 2, 2), (4,), (5,), (2, 1, 1, 1)):
        for figures in (1, 1, 2):
            chain = some_chain(source, len(sizes), source.randrange(1, 4), figures)
            made, _ = split(source, chain, sizes)
            yield made
            yield multiplied(made)
            # One line otherwise: perhaps nothing keeps any more.
            at = source.randrange(sum(sizes))
            line = tuple(weight + source.randrange(2) for weight in made[2][at])
            yield made[:2] + (made[2][:at] + (line,) + made[2][at + 1:],) + made[3:]


class LumpErrors(Calls):
    def test_examples(self):
        for value, wanted in (
            (((0,), (1, 2)), None), (((0,), (1,), (2,)), None), (((0, 1), (2,)), ("tells", 0)), (((0,), (2, 1)), "form"),
            (((1, 2), (0,)), "form"), (((0,), (1,)), "form"), ([(0,), (1, 2)], "form"),
        ):
            self.tells(wanted, lump_error, chain=TWIN, value=value)
        self.tells(("steps", 0, 0), lump_error, chain=SLOW, value=((0, 1), (2,)))
        self.tells(None, lump_error, chain=DOUBLE, value=((0, 1),))

    def test_all_parts(self):
        found = set()
        for chain in lump_chains():
            for parts in all_parts(len(chain[1])):
                wanted = wrong(chain, parts)
                self.assertEqual(lump_error(chain, parts), wanted)
                found.add(wanted)
        self.assertLessEqual({
            None, ("tells", 0), ("tells", 1), ("tells", 2), ("steps", 0, 0), ("steps", 0, 1), ("steps", 1, 0), ("steps", 1, 1),
        }, found)

    def test_by_place_and_by_name(self):
        for chain in (WORN, TWIN, SLOW, DOUBLE, SIX):
            for parts in itertools.islice(all_parts(len(chain[1])), 20):
                self.tells(wrong(chain, parts), lump_error, chain=chain, value=parts)

    def test_tells_of_all_parts_stand_ahead_of_steps(self):
        steps = ((1, 0, 0, 0), (0, 1, 1, 0), (0, 0, 1, 0), (0, 0, 0, 1))
        for tells, wanted in (
            (((1, 1), (1, 1), (1, 0), (2, 0)), ("steps", 0, 0)), (((1, 1), (1, 1), (1, 0), (0, 1)), ("tells", 1)),
            (((1, 1), (1, 2), (1, 0), (0, 1)), ("tells", 0)), (((3, 3), (1, 1), (1, 2), (2, 4)), ("steps", 0, 0)),
        ):
            self.tells(wanted, lump_error, chain=("ab", (1, 1, 1, 1), steps, tells), value=((0, 1), (2, 3)))

    def test_the_first_part_and_the_first_other_one(self):
        tells = ((1,),) * 5
        for steps, wanted in (
            (((1, 0, 0, 0, 0), (0, 0, 1, 0, 0), (1, 1, 0, 0, 0), (0, 0, 1, 0, 0), (0, 0, 0, 0, 1)), ("steps", 0, 0)),
            (((1, 0, 0, 1, 0), (0, 1, 1, 0, 0), (1, 1, 0, 0, 0), (0, 0, 1, 0, 0), (0, 0, 0, 0, 1)), ("steps", 1, 0)),
            (((1, 0, 0, 1, 0), (0, 1, 0, 0, 1), (0, 0, 1, 1, 0), (0, 0, 1, 0, 0), (0, 0, 0, 0, 1)), ("steps", 0, 1)),
            (((1, 0, 0, 1, 0), (0, 1, 1, 0, 0), (1, 0, 0, 1, 0), (0, 2, 1, 0, 1), (0, 0, 0, 0, 1)), ("steps", 1, 1)),
            (((1, 0, 0, 1, 0), (0, 1, 1, 0, 0), (1, 0, 0, 1, 0), (0, 1, 1, 0, 0), (0, 0, 0, 0, 1)), None),
        ):
            self.tells(wanted, lump_error, chain=("a", (1,) * 5, steps, tells), value=((0, 1), (2, 3), (4,)))

    def test_lines_multiplied_unlike_within_a_part(self):
        for factors in ((1, 1, 1), (1, 2, 3), (7, 1, 10 ** 30)):
            steps = tuple(tuple(factor * weight for weight in line) for factor, line in zip(factors, TWIN[2]))
            tells = tuple(tuple(factor * weight for weight in line) for factor, line in zip(factors[::-1], TWIN[3]))
            self.tells(None, lump_error, chain=TWIN[:2] + (steps, tells), value=((0,), (1, 2)))
            self.tells(("tells", 0), lump_error, chain=TWIN[:2] + (steps, tells), value=((0, 1, 2),))

    def test_form(self):
        for value in VALUES:
            for chain in (WORN, TWIN, SIX):
                self.tells("form", lump_error, chain=chain, value=value)
        for value in (
            ((0,), [1, 2]), [[0], [1, 2]], ((0,), (), (1, 2)), ((), (0,), (1, 2)), ((0,), (1, 2), ()), ((0,), (1, 1, 2)),
            ((0,), (0, 1, 2)), ((0, 1), (1, 2)), ((0,), (1,), (1,), (2,)), ((0,), (2,)), ((1, 2),), ((0,), (1, 2, 3)),
            ((0,), (1, 2), (3,)), ((0,), (1,), (-1,)), ((-1,), (0,), (1, 2)), ((False,), (1, 2)), ((0,), (True, 2)),
            ((0,), (2,), (1,)), ((1,), (0,), (2,)), ((0,), (2, 1)), ((2, 1, 0),), ((1, 0), (2,)), ((0,), "12"), ("0", "12"),
            ((0,), (1, "2")), ((0,), (1, None)), ((0,), (1, (2,))), (((0,),), ((1, 2),)), (0, 1, 2), ((0,), 1, 2),
            {0: (0,), 1: (1, 2)}, ((0,), {1: True, 2: True}), ((0,), (1, 2), None), ((0,), (1, 10 ** 399)), "form", ("form", 0),
        ):
            self.tells("form", lump_error, chain=TWIN, value=value)

    def test_one_state(self):
        for chain in (ONE, STILL):
            self.tells(None, lump_error, chain=chain, value=((0,),))
            for value in ((), ((),), (0,), ((False,),), ((0,), (0,)), ((0, 0),), ((1,),), [(0,)], ([0],)):
                self.tells("form", lump_error, chain=chain, value=value)


class Lumped(Calls):
    def test_examples(self):
        self.tells(WORN, lumped, chain=TWIN, parts=((0,), (1, 2)))
        self.tells(FLAT, lumped, chain=DOUBLE, parts=((0, 1),))

    def check(self, chain, parts):
        made = lumped(chain, parts)
        self.assertIsNone(chain_error(made))
        self.assertEqual(plain(made), made)
        self.assertEqual([made[0], len(made[1])], [chain[0], len(parts)])
        for at, states in enumerate(parts):
            self.assertEqual(part(made[1], at), sum(part(chain[1], state) for state in states))
            for state in states:
                self.assertEqual(tells_of(made, at), tells_of(chain, state))
                for other, goal in enumerate(parts):
                    self.assertEqual(part(made[2][at], other), sum_to(chain, state, goal))
        return made

    def test_sums(self):
        many = 0
        for chain in lump_chains():
            for parts in all_parts(len(chain[1])):
                if wrong(chain, parts) is None:
                    self.check(chain, parts)
                    many += len(parts) < len(chain[1])
        self.assertGreater(many, 60)

    def test_by_place_and_by_name(self):
        source = random.Random(112)
        for sizes in ((1,), (2,), (1, 2), (3, 3), (2, 2, 2), (1, 1, 1, 1, 1, 1)):
            for figures in (1, 30):
                chain, parts = split(source, some_chain(source, len(sizes), 3, figures), sizes)
                made = self.check(chain, parts)
                self.tells(made, lumped, chain=chain, parts=parts)
                self.tells(made, lumped, chain=multiplied(chain), parts=parts)
                self.tells(None, lump_error, chain=chain, value=parts)

    def test_great_weights(self):
        source = random.Random(113)
        chain, parts = split(source, some_chain(source, 2, 2, 390), (2, 1))
        self.check(chain, parts)

    def test_put_together_tells_the_same(self):
        source = random.Random(114)
        for chain in [chain for chain in lump_chains() if len(chain[0]) <= 2][::2]:
            for parts in all_parts(len(chain[1])):
                if wrong(chain, parts) is None:
                    made = lumped(chain, parts)
                    for view in list(short_views(chain, 2)) + [some_view(source, chain, 9), some_view(source, chain, 40)]:
                        self.assertEqual(chance(made, view), chance(chain, view))
                    self.assertIsNone(alike(chain, made))

    def test_against_fractions(self):
        chain, parts = split(random.Random(115), FAIR, (3, 2))
        for view in short_views(chain, 4):
            self.assertEqual(fractions.Fraction(*chance(lumped(chain, parts), view)), summed(FAIR, view))


class Coarsest(Calls):
    def test_examples(self):
        for chain, wanted in (
            (TWIN, ((0,), (1, 2))), (WORN, ((0,), (1,))), (SLOW, ((0,), (1,), (2,))), (DOUBLE, ((0, 1),)), (EVEN, ((0, 1),)),
            (ONE, ((0,),)), (HOP, ((0,), (1,))), (RING, ((0,), (1,))), (SIX, ((0, 1, 2, 3, 4, 5),)),
        ):
            self.tells(wanted, coarsest, chain=chain)

    def test_the_fewest_that_keep(self):
        many = set()
        for chain in lump_chains():
            keeping = [parts for parts in all_parts(len(chain[1])) if wrong(chain, parts) is None]
            fewest = min(len(parts) for parts in keeping)
            wanted = [parts for parts in keeping if len(parts) == fewest]
            self.assertEqual([coarsest(chain)], wanted)
            self.tells(wanted[0], coarsest, chain=chain)
            many.add((len(chain[1]), fewest))
            # All others part it further.
            for parts in keeping:
                for states in parts:
                    self.assertTrue(any(set(states) <= set(goal) for goal in wanted[0]))
        self.assertLessEqual({(2, 1), (3, 2), (4, 2), (5, 2), (5, 3), (5, 1), (4, 4)}, many)

    def test_parts_parted_round_after_round(self):
        # All tell a, but for the last one: who comes to it in how many steps is seen round after round.
        steps = tuple(tuple(int(to == min(at + 1, 5)) for to in range(6)) for at in range(6))
        chain = ("ab", (1,) * 6, steps, ((1, 0),) * 5 + ((0, 1),))
        self.tells(tuple((at,) for at in range(6)), coarsest, chain=chain)
        self.tells(((0, 1, 2, 3, 4, 5),), coarsest, chain=chain[:3] + (((2, 1),) * 6,))
        order = (3, 0, 5, 2, 4, 1)
        self.tells(tuple((at,) for at in range(6)), coarsest, chain=moved(chain, order))

    def test_parts_kept_together_that_tell_alike_and_part_elsewhere(self):
        # Alike tells, and alike sums to what tells alike; but of 2 and 3, where 0 and 1 go, just one leads back.
        steps = ((0, 0, 1, 0), (0, 0, 0, 1), (1, 0, 0, 0), (0, 0, 0, 1))
        tells = ((1, 0), (1, 0), (0, 1), (0, 1))
        self.tells(((0,), (1,), (2,), (3,)), coarsest, chain=("ab", (1,) * 4, steps, tells))

    def test_of_what_is_lumped_by_it(self):
        for chain in list(lump_chains()) + [SIX, with_idle_state(TWIN)]:
            made = lumped(chain, coarsest(chain))
            self.assertEqual(coarsest(made), tuple((state,) for state in range(len(made[1]))))

    def test_six_states(self):
        source = random.Random(116)
        for sizes in ((2, 2, 2), (4, 2), (3, 2, 1), (6,), (1, 1, 1, 1, 2)):
            drawn = some_chain(source, len(sizes), 4, 3)
            chain, parts = split(source, drawn, sizes)
            wanted = parts if coarsest(drawn) == tuple((at,) for at in range(len(sizes))) else None
            self.assertEqual(coarsest(chain), wanted)
            self.tells(wanted, coarsest, chain=multiplied(chain))

    def test_two_tuples_of_parts_that_keep(self):
        """What both lead together is kept, too."""
        source = random.Random(117)
        chain, _ = split(source, FAIR, (3, 2))
        keeping = [parts for parts in all_parts(5) if wrong(chain, parts) is None]
        for one in keeping:
            for other in keeping:
                lots = [{state} for state in range(5)]
                for states in one + other:
                    touched = [lot for lot in lots if lot & set(states)]
                    lots = [lot for lot in lots if not lot & set(states)] + [set().union(*touched)]
                self.assertIsNone(lump_error(chain, tuple(sorted(tuple(sorted(lot)) for lot in lots))))


class WhatHolds(Calls):
    def test_the_same_shares(self):
        for chain in lump_chains():
            for other in (multiplied(chain), plain(chain)):
                self.assertEqual(coarsest(other), coarsest(chain))
                for parts in itertools.islice(all_parts(len(chain[1])), 8):
                    self.assertEqual(lump_error(other, parts), lump_error(chain, parts))

    def test_the_same_calls_again(self):
        chains = [WORN, TWIN, SLOW, DOUBLE, SIX, STILL]
        self.tells_again(coarsest, [{"chain": chain} for chain in chains])
        self.tells_again(lumped, [{"chain": chain, "parts": coarsest(chain)} for chain in chains])
        self.tells_again(lump_error, [
            {"chain": chain, "value": value} for chain in chains for value in (((0,), (1, 2)), ((0, 1),), ((0,),), "a", None)])
