import fractions
import itertools
import math
import random

from helpers import VALUES, Calls
from samples import (
    CIRCLE, EVEN, FAIR, FORK, GREAT, HOP, ONE, PARTING, RING, SIX, STILL, TWIN, WORN, moved, multiplied, pair, part, parted,
    ratio, small_chains, solved, some_chain, some_chains, with_idle_state,
)

from veiledchains.chains import plain
from veiledchains.longrun import (
    beat_shares, home_shares, homes, long_holds, long_paper, long_shares, long_signs, mean_return, stays,
)

SIDE = ("a", (1, 0), ((1, 0), (1, 1)), ((1,), (1,)))
FRACTION = fractions.Fraction
SMALL = small_chains()


def sparse_line(source, width, figures=1):
    line = [0] * width
    for at in source.sample(range(width), min(width, source.choice((1, 1, 2)))):
        line[at] = source.randrange(1, 10 ** figures)
    return tuple(line)


def sparse_chain(source, states, signs=2, figures=1):
    """A chain with few ways on: it may have several homes, rounds of greater pulse, states that do not come."""
    start = sparse_line(source, states, figures)
    steps = tuple(sparse_line(source, states, figures) for _ in range(states))
    return ("abcde"[:signs], start, steps, some_chain(source, states, signs, figures)[3])


def sparse_chains(seed, many, figures=1):
    source = random.Random(seed)
    return [sparse_chain(source, source.randrange(1, 7), source.randrange(1, 4), figures) for _ in range(many)]


MANY = [CIRCLE, FORK, SIDE, PARTING, SIX] + SMALL + some_chains() + sparse_chains(171, 80)


def led(chain, states):
    """The states to which some of these lead."""
    return {to for state in states for to in range(len(chain[1])) if chain[2][state][to]}


def come_to(chain, states):
    found = set(states)
    for _ in chain[1]:
        found |= led(chain, found)
    return found


def comes(chain):
    return come_to(chain, [state for state, weight in enumerate(chain[1]) if weight])


def homes_of(chain):
    """Lots of states that come: closed, and led to one another; the pulse by the lengths of all rounds up to 50 steps."""
    found = []
    come = sorted(comes(chain))
    for many in range(1, len(come) + 1):
        for lot in itertools.combinations(come, many):
            if all(come_to(chain, led(chain, [state])) == set(lot) for state in lot):
                lengths, here = [], {lot[0]}
                for length in range(1, 51):
                    here = led(chain, here)
                    lengths += [length] if lot[0] in here else []
                found.append((lot, math.gcd(*lengths)))
    return tuple(sorted(found))


def stepped(chain, worths):
    return [sum(worth * part(line, to) for worth, line in zip(worths, chain[2])) for to in range(len(worths))]


def begun(chain):
    return [part(chain[1], state) for state in range(len(chain[1]))]


def holds(chain, shares, paper):
    """What the document asks of a pair, by Fractions."""
    gaps = [one - other for one, other in zip(begun(chain), shares)]
    given = [one - other for one, other in zip(paper, stepped(chain, paper))]
    return sum(shares) == 1 and min(shares) >= 0 and stepped(chain, shares) == shares and gaps == given


def settled(chain, lot):
    """The one tuple of shares of a home that stays the same."""
    rows = [[part(chain[2][one], to) - (one == to) for one in lot] + [0] for to in lot[:-1]]
    return dict(zip(lot, solved(rows + [[1] * len(lot) + [1]])))


def come_shares(chain):
    """For each home the share that the chain comes to it, from the states outside by equations."""
    found = []
    lots = [lot for lot, _ in homes_of(chain)]
    outside = [state for state in sorted(comes(chain)) if not any(state in lot for lot in lots)]
    for lot in lots:
        rows = []
        for state in outside:
            row = [FRACTION(int(other == state)) - part(chain[2][state], other) for other in outside]
            rows.append(row + [sum(part(chain[2][state], to) for to in lot)])
        worths = dict(zip(outside, solved(rows)))
        worths.update({state: FRACTION(1) for state in lot})
        found.append(sum(share * worths.get(state, 0) for state, share in enumerate(begun(chain))))
    return found


def limits(chain):
    shares = [FRACTION(0)] * len(chain[1])
    for (lot, _), come in zip(homes_of(chain), come_shares(chain)):
        for state, share in settled(chain, lot).items():
            shares[state] = come * share
    return shares


class Homes(Calls):
    def test_examples(self):
        for chain, wanted in (
            (WORN, (((1,), 1),)), (FAIR, (((0, 1), 1),)), (CIRCLE, (((0, 1), 2),)), (FORK, (((1,), 1), ((2,), 1))),
            (SIDE, (((0,), 1),)),
        ):
            self.tells(wanted, homes, chain=chain)
        for chain, wanted in ((WORN, ((1, 1),)), (CIRCLE, ((1, 1),)), (FORK, ((1, 3), (2, 3)))):
            self.tells(wanted, home_shares, chain=chain)

    def test_all_chains(self):
        found = set()
        for chain in MANY:
            wanted = homes_of(chain)
            self.tells(wanted, homes, chain=chain)
            self.tells(wanted, homes, chain=multiplied(chain))
            shares = come_shares(chain)
            self.assertEqual(sum(shares), 1)
            self.tells(tuple(map(pair, shares)), home_shares, chain=chain)
            self.tells(tuple(map(pair, shares)), home_shares, chain=multiplied(chain))
            found |= {("homes", len(wanted))} | {("pulse", pulse) for _, pulse in wanted}
        self.assertLessEqual({("homes", 1), ("homes", 2), ("homes", 3), ("pulse", 1), ("pulse", 2), ("pulse", 3)}, found)

    def test_rounds(self):
        def tied(states, ways):
            steps = [[0] * states for _ in range(states)]
            for one, other in ways:
                steps[one][other] += 1 + one
            return ("a", (1,) + (0,) * (states - 1), tuple(map(tuple, steps)), ((1,),) * states)

        ring = [(0, 1), (1, 2), (2, 3), (3, 4), (4, 5), (5, 0)]
        for ways, pulse in (
            (ring, 6), (ring + [(2, 0)], 3), (ring + [(1, 0)], 2), (ring + [(3, 0)], 2), (ring + [(4, 0)], 1), (ring + [(3, 3)], 1),
            (ring + [(1, 0), (2, 0)], 1), (ring + [(2, 0), (5, 3)], 3), (ring + [(1, 0), (3, 2)], 2), (ring + [(3, 1), (4, 3)], 1),
            (ring + [(1, 4)], 1 * math.gcd(6, 4)), (ring + [(0, 4)], math.gcd(6, 3)), (ring + [(0, 3), (3, 0)], 2),
        ):
            self.tells((((0, 1, 2, 3, 4, 5), pulse),), homes, chain=tied(6, ways))
        for states in range(1, 7):
            for order in list(itertools.permutations(range(states)))[::7]:
                chain = tied(states, [(order[at], order[(at + 1) % states]) for at in range(states)])
                self.tells(((tuple(range(states)), states),), homes, chain=chain)
        # Two rings of two and of three, and a state of its own: begun in some of them only.
        chain = tied(6, [(0, 4), (4, 0), (1, 2), (2, 5), (5, 1), (3, 3)])[2]
        for start, wanted in (
            ((1, 1, 0, 1, 0, 0), (((0, 4), 2), ((1, 2, 5), 3), ((3,), 1))), ((0, 0, 0, 0, 7, 0), (((0, 4), 2),)),
            ((0, 0, 1, 0, 1, 0), (((0, 4), 2), ((1, 2, 5), 3))), ((0, 0, 0, 1, 0, 1), (((1, 2, 5), 3), ((3,), 1))),
        ):
            self.tells(wanted, homes, chain=("a", start, chain, ((1,),) * 6))

    def test_home_shares_with_several_homes(self):
        chain = PARTING
        self.tells((((3,), 1), ((4,), 1), ((5,), 1)), homes, chain=chain)
        self.tells(((2, 5), (3, 20), (9, 20)), home_shares, chain=chain)
        self.tells(((0, 1), (0, 1), (0, 1), (2, 5), (3, 20), (9, 20)), long_shares, chain=chain)
        self.tells(((7, 10), (3, 40), (9, 40)), home_shares, chain=chain[:1] + ((1, 0, 0, 1, 0, 0),) + chain[2:])

    def test_great_weights(self):
        for chain in sparse_chains(172, 6, 400):
            self.tells(homes_of(chain), homes, chain=chain)
            self.tells(tuple(map(pair, come_shares(chain))), home_shares, chain=chain)


class Beats(Calls):
    def test_examples(self):
        for chain, beat, wanted in (
            (WORN, 0, ((1, 2), (1, 2))), (WORN, 2, ((1, 8), (7, 8))), (FAIR, 1, ((11, 24), (13, 24))), (CIRCLE, 39, ((0, 1), (1, 1))),
        ):
            self.tells(wanted, beat_shares, chain=chain, beat=beat)
        for chain, wanted in (
            (WORN, False), (("ab", (3, 4)) + FAIR[2:], True), (CIRCLE, False), (("ab", (1, 1)) + CIRCLE[2:], True),
        ):
            self.tells(wanted, stays, chain=chain)

    def test_all_beats(self):
        for chain in MANY[::3]:
            worths = begun(chain)
            for beat in range(41):
                self.assertEqual(beat_shares(chain, beat), tuple(map(pair, worths)))
                self.assertEqual(sum(worths), 1)
                if beat in (0, 1, 5, 40):
                    self.tells(tuple(map(pair, worths)), beat_shares, chain=chain, beat=beat)
                    self.assertEqual(beat_shares(multiplied(chain), beat), tuple(map(pair, worths)))
                worths = stepped(chain, worths)

    def test_stays(self):
        found = {True: 0, False: 0}
        for chain in MANY:
            for other in (chain, self.settled_chain(chain)):
                wanted = stepped(other, begun(other)) == begun(other)
                self.tells(wanted, stays, chain=other)
                self.tells(wanted, stays, chain=multiplied(other))
                found[wanted] += 1
        self.assertGreater(min(found.values()), 80)

    def settled_chain(self, chain):
        """Begun by its long shares it stays."""
        shares = limits(chain)
        common = math.lcm(*[share.denominator for share in shares])
        return (chain[0], tuple(int(share * common) for share in shares)) + chain[2:]

    def test_stays_with_several_homes(self):
        still = ((1, 0, 0), (0, 1, 0), (0, 0, 1))
        for start in ((1, 0, 0), (1, 2, 3), (0, 5, 1)):
            self.tells(True, stays, chain=("ab", start, still, FORK[3]))
        for start, wanted in (((1, 1, 2), False), ((0, 1, 2), True), ((0, 2, 1), True), ((0, 0, 1), True), ((1, 0, 0), False)):
            self.tells(wanted, stays, chain=("ab", start) + FORK[2:])
        two = ((0, 1, 0, 0), (1, 0, 0, 0), (0, 0, 1, 1), (0, 0, 1, 1))
        for start, wanted in (((1, 1, 1, 1), True), ((1, 1, 5, 5), True), ((1, 2, 1, 1), False), ((1, 1, 1, 2), False)):
            self.tells(wanted, stays, chain=("a", start, two, ((1,),) * 4))

    def test_great_weights(self):
        chain = some_chain(random.Random(173), 3, 2, 400)
        worths = begun(chain)
        for beat in range(4):
            self.tells(tuple(map(pair, worths)), beat_shares, chain=chain, beat=beat)
            worths = stepped(chain, worths)
        self.tells(True, stays, chain=("a", (GREAT, GREAT), ((GREAT, 1), (1, GREAT)), ((1,), (1,))))
        self.tells(False, stays, chain=("a", (GREAT, GREAT), ((GREAT, 1), (2, GREAT)), ((1,), (1,))))


class LongShares(Calls):
    def test_examples(self):
        for chain, wanted in (
            (WORN, ((0, 1), (1, 1))), (FAIR, ((3, 7), (4, 7))), (CIRCLE, ((1, 2), (1, 2))), (FORK, ((0, 1), (1, 3), (2, 3))),
        ):
            self.tells(wanted, long_shares, chain=chain)
        for chain, wanted in ((WORN, ((1, 4), (3, 4))), (FAIR, ((17, 28), (11, 28))), (FORK, ((1, 3), (2, 3)))):
            self.tells(wanted, long_signs, chain=chain)
        for chain, state, wanted in (
            (WORN, 0, None), (WORN, 1, (1, 1)), (FAIR, 0, (7, 3)), (FAIR, 1, (7, 4)), (CIRCLE, 0, (2, 1)), (FORK, 2, (1, 1)),
        ):
            self.tells(wanted, mean_return, chain=chain, state=state)

    def test_all_chains(self):
        for chain in MANY:
            shares = limits(chain)
            self.tells(tuple(map(pair, shares)), long_shares, chain=chain)
            self.tells(tuple(map(pair, shares)), long_shares, chain=multiplied(chain))
            lots = [lot for lot, _ in homes(chain)]
            for state, share in enumerate(shares):
                self.assertIs(share > 0, any(state in lot for lot in lots))
            for lot, come in zip(lots, home_shares(chain)):
                self.assertEqual(sum(shares[state] for state in lot), ratio(come))
            signs = [sum(share * part(line, at) for share, line in zip(shares, chain[3])) for at in range(len(chain[0]))]
            self.assertEqual(sum(signs), 1)
            self.tells(tuple(map(pair, signs)), long_signs, chain=chain)
            self.tells(tuple(map(pair, signs)), long_signs, chain=multiplied(chain))

    def return_mean(self, chain, state):
        """By the equations of the mean numbers of beats from each state of the home to this one."""
        lot = next((lot for lot, _ in homes_of(chain) if state in lot), None)
        if lot is None:
            return None
        others = [other for other in lot if other != state]
        rows = [[FRACTION(int(one == other)) - part(chain[2][one], other) for other in others] + [1] for one in others]
        worths = dict(zip(others, solved(rows)))
        return pair(1 + sum(part(chain[2][state], other) * worth for other, worth in worths.items()) + FRACTION(0))

    def test_mean_returns(self):
        found = set()
        for chain in MANY:
            for state in range(len(chain[1])):
                wanted = self.return_mean(chain, state)
                self.tells(wanted, mean_return, chain=chain, state=state)
                self.assertEqual(mean_return(multiplied(chain), state), wanted)
                come = state in comes(chain)
                found.add((come, wanted is None))
                for lot, _ in homes(chain):
                    if state in lot:
                        self.assertEqual(settled(chain, lot)[state] * ratio(wanted), 1)
        self.assertEqual(found, {(True, True), (True, False), (False, True)})

    def test_states_that_do_not_come(self):
        self.tells(None, mean_return, chain=SIDE, state=1)
        # The state 1 would be a home if it came.
        alone = ("a", (1, 0), ((1, 0), (0, 1)), ((1,), (1,)))
        self.tells((((0,), 1),), homes, chain=alone)
        self.tells(None, mean_return, chain=alone, state=1)
        self.tells((1, 1), mean_return, chain=alone, state=0)
        self.tells(((1, 1), (0, 1)), long_shares, chain=alone)
        for chain in SMALL:
            wide = with_idle_state(chain)
            self.tells(homes(chain), homes, chain=wide)
            self.tells(long_shares(chain) + ((0, 1),), long_shares, chain=wide)
            self.tells(None, mean_return, chain=wide, state=len(chain[1]))

    def test_great_weights(self):
        for chain in [some_chain(random.Random(174), states, 3, 400) for states in (1, 2, 4, 6)] + sparse_chains(175, 5, 400):
            shares = limits(chain)
            self.tells(tuple(map(pair, shares)), long_shares, chain=chain)
            self.assertEqual(sum(map(ratio, long_signs(chain))), 1)
            for state in range(len(chain[1])):
                self.assertEqual(mean_return(chain, state), self.return_mean(chain, state))

    def test_chains_that_tell_alike(self):
        for chain in SMALL + [FORK, CIRCLE]:
            others = [parted(chain, state) for state in range(len(chain[1]))] + [with_idle_state(chain), multiplied(chain)]
            others.append(moved(chain, list(range(len(chain[1])))[::-1]))
            for other in others:
                self.tells(long_signs(chain), long_signs, chain=other)


class Papers(Calls):
    def test_examples(self):
        for paper, wanted in (
            (((1, 1), (0, 1)), True), (((1, 1), (-7, 3)), True), (((0, 1), (1, 1)), False), (((1, 1),), False),
        ):
            self.tells(wanted, long_holds, chain=WORN, value=(((0, 1), (1, 1)), paper))
        for chain in (WORN, FAIR, CIRCLE, FORK):
            self.tells(True, long_holds, chain=chain, value=(long_shares(chain), long_paper(chain)))
        self.tells(False, long_holds, chain=FORK, value=(((0, 1), (1, 2), (1, 2)), long_paper(FORK)))
        self.tells(True, long_holds, chain=CIRCLE, value=(((1, 2), (1, 2)), ((1, 2), (0, 1))))
        self.tells(False, long_holds, chain=WORN, value=None)

    def test_all_chains(self):
        source = random.Random(176)
        for chain in MANY + sparse_chains(177, 5, 400) + [some_chain(source, 6, 2, 400)]:
            shares, paper = long_shares(chain), long_paper(chain)
            self.assertEqual(paper, tuple(pair(ratio(worth)) for worth in paper))
            self.assertTrue(holds(chain, list(map(ratio, shares)), list(map(ratio, paper))))
            self.tells(paper, long_paper, chain=chain)
            self.tells(True, long_holds, chain=chain, value=(shares, paper))
            self.tells(True, long_holds, chain=multiplied(chain), value=(shares, paper))
            self.assertTrue(long_holds(chain, (shares, long_paper(multiplied(chain)))))

    def test_other_papers(self):
        """What a home keeps by a step may be added; anything else may not."""
        source = random.Random(178)
        for chain in MANY[::2]:
            shares, paper = long_shares(chain), list(map(ratio, long_paper(chain)))
            for lot, _ in homes(chain):
                factor = FRACTION(source.randrange(-9, 10), source.randrange(1, 5))
                for state, share in settled(chain, lot).items():
                    paper[state] += factor * share
            self.tells(True, long_holds, chain=chain, value=(shares, tuple(map(pair, paper))))
            for state in range(len(paper)):
                other = list(paper)
                other[state] += FRACTION(1, 3)
                wanted = holds(chain, list(map(ratio, shares)), other)
                self.tells(wanted, long_holds, chain=chain, value=(shares, tuple(map(pair, other))))

    def test_shares_that_do_not_hold(self):
        for chain in (WORN, FAIR, CIRCLE, FORK, RING, TWIN, HOP, EVEN):
            shares, paper = long_shares(chain), long_paper(chain)
            states = len(chain[1])
            for other in itertools.product(((0, 1), (1, 1), (1, 2), (1, 3), (2, 3), (1, 4), (3, 4)), repeat=states):
                if other != shares:
                    for beside in (paper, ((0, 1),) * states, ((1, 1),) * states):
                        wanted = holds(chain, list(map(ratio, other)), list(map(ratio, beside)))
                        self.assertFalse(wanted)
                        self.assertIs(long_holds(chain, (other, beside)), False)

    def test_shares_that_stay_the_same_but_have_no_paper(self):
        for shares in (((0, 1), (1, 2), (1, 2)), ((0, 1), (1, 1), (0, 1)), ((0, 1), (0, 1), (1, 1)), ((0, 1), (2, 3), (1, 3))):
            for paper in itertools.product(((0, 1), (2, 1), (1, 1), (-2, 3)), repeat=3):
                self.tells(False, long_holds, chain=FORK, value=(shares, paper))
        self.tells(True, long_holds, chain=FORK, value=(((0, 1), (1, 3), (2, 3)), ((4, 3), (0, 1), (-5, 1))))
        # They sum up to a half: what lacks stays the same by a step, too, and a paper there would be.
        self.tells(False, long_holds, chain=("a", (1, 1), ((1, 0), (0, 1)), ((1,), (1,))), value=(((1, 2), (0, 1)), ((0, 1), (0, 1))))
        self.tells(True, long_holds, chain=("a", (1, 1), ((1, 0), (0, 1)), ((1,), (1,))), value=(((1, 2), (1, 2)), ((0, 1), (0, 1))))

    def test_shares_have_to_be_shares(self):
        # They stay the same, sum up to 1, and nothing is asked of a paper that goes to and fro: but one is below 0.
        still = ("a", (1, 1), ((1, 0), (0, 1)), ((1,), (1,)))
        for shares in (((-1, 2), (3, 2)), ((2, 1), (-1, 1))):
            self.tells(False, long_holds, chain=still, value=(shares, ((0, 1), (0, 1))))

    def test_values_of_all_kinds(self):
        shares, paper = long_shares(WORN), long_paper(WORN)
        good = (shares, paper)
        for value in VALUES:
            self.tells(False, long_holds, chain=WORN, value=value)
            for at in (0, 1):
                self.tells(False, long_holds, chain=WORN, value=good[:at] + (value,) + good[at + 1:])
                for place in (0, 1):
                    side = good[at][:place] + (value,) + good[at][place + 1:]
                    # A great fraction is one, too: at the state that stays as it is anything may stand in a paper.
                    wanted = (at, place) == (1, 1) and value == (-GREAT, 1)
                    self.tells(wanted, long_holds, chain=WORN, value=good[:at] + (side,) + good[at + 1:])

    def test_forms(self):
        shares, paper = ((0, 1), (1, 1)), ((1, 1), (0, 1))
        self.tells(True, long_holds, chain=WORN, value=(shares, paper))
        for value in (
            [shares, paper], (shares,), (shares, paper, paper), (), (list(shares), paper), (shares, list(paper)), (paper, shares),
            (([0, 1], (1, 1)), paper), (shares, ([1, 1], (0, 1))), (shares + ((0, 1),), paper), (shares, paper + ((0, 1),)),
            (shares[:1], paper), (shares, paper[:1]), (shares + ((0, 1),), paper + ((0, 1),)), ((), ()), ((shares, paper),),
            (((0, 2), (1, 1)), paper), (((0, 1), (2, 2)), paper), (shares, ((2, 2), (0, 1))), (shares, ((1, 1), (0, 3))),
            (shares, ((-1, -1), (0, 1))), (((0, -1), (1, 1)), paper), (((0, 1), (-1, -1)), paper), (shares, ((1, 1), (0, 0))),
            (((False, 1), (1, 1)), paper), (((0, True), (1, 1)), paper), (((0, 1), (True, 1)), paper), (((0, 1), (1, True)), paper),
            (shares, ((True, 1), (0, 1))), (shares, ((1, 1), (False, 1))), (shares, ((1, 1), (0, True))), (((0, 1), (1, 1, 1)), paper),
            (((0, 1), (1,)), paper), (((0, 1), 1), paper), ((0, 1), (1, 0)), (shares, ((1, 1), None)), (shares, ((1, 1), "0")),
            ("01", "10"), {0: shares, 1: paper}, ({0: (0, 1), 1: (1, 1)}, paper), (shares, None), (None, paper),
        ):
            self.tells(False, long_holds, chain=WORN, value=value)
        for worth in ((7, 3), (-7, 3), (GREAT, 1), (-1, GREAT), (0, 1)):
            self.tells(True, long_holds, chain=WORN, value=(shares, ((1, 1), worth)))

    def test_the_means_of_the_first_beats(self):
        source = random.Random(179)
        for chain in MANY[::2]:
            shares = list(map(ratio, long_shares(chain)))
            paper = list(map(ratio, long_paper(chain)))
            for lot, _ in homes(chain):
                factor = source.randrange(-2, 3)
                for state, share in settled(chain, lot).items():
                    paper[state] += factor * share
            self.assertTrue(long_holds(chain, (long_shares(chain), tuple(map(pair, paper)))))
            most = 2 * sum(map(abs, paper))
            sums = [FRACTION(0)] * len(shares)
            for beat in range(41):
                sums = [total + ratio(share) for total, share in zip(sums, beat_shares(chain, beat))]
                for total, share in zip(sums, shares):
                    self.assertLessEqual(abs(total / (beat + 1) - share), most / (beat + 1))

    def test_a_pulse_of_one_comes_near(self):
        for chain in (WORN, FAIR, FORK, RING, TWIN, EVEN):
            self.assertEqual({pulse for _, pulse in homes(chain)}, {1})
            for one, other in zip(beat_shares(chain, 40), long_shares(chain)):
                self.assertLess(abs(ratio(one) - ratio(other)), FRACTION(1, 10 ** 9))
        self.assertEqual([beat_shares(CIRCLE, beat) for beat in (39, 40)], [((0, 1), (1, 1)), ((1, 1), (0, 1))])


class WhatHolds(Calls):
    def test_the_same_shares(self):
        for chain in MANY[::4]:
            other = plain(multiplied(chain))
            for function in (homes, home_shares, stays, long_shares, long_signs):
                self.assertEqual(function(other), function(chain))
            self.assertTrue(long_holds(other, (long_shares(chain), long_paper(chain))))

    def test_the_same_calls_again(self):
        chains = [WORN, FAIR, CIRCLE, FORK, SIDE, TWIN, STILL, ONE]
        for function in (homes, home_shares, stays, long_shares, long_signs, long_paper):
            self.tells_again(function, [{"chain": chain} for chain in chains])
        self.tells_again(beat_shares, [{"chain": chain, "beat": beat} for chain in chains for beat in (0, 1, 17)])
        self.tells_again(mean_return, [{"chain": chain, "state": 0} for chain in chains])
        self.tells_again(long_holds, [
            {"chain": chain, "value": (long_shares(other), long_paper(other))} for chain in chains for other in chains])
