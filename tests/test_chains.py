import fractions
import math
import random

from helpers import NOT_STRINGS, Calls, same
from samples import FAIR, GREAT, ONE, RING, WORN, multiplied, pair, part, some_chain, some_chains

from veiledchains.chains import chain_error, plain, start_share, step_share, tell_share
from veiledchains.errors import BadChain, Unfit

CHAINS = [WORN, FAIR, RING, ONE] + some_chains() + some_chains(2) + some_chains(400)
# What is no line of two weights; neither are those that are lines of another width.
NO_LINES = [
    None, True, 0, 12, "", "12", [1, 2], [], (), (0, 0), (1, -1), (-1, 2), (-1, -1), (1, True), (False, 1), (True, True),
    (1, None), (None, 1), (1, "2"), ("1", "2"), (1, (2,)), ((1, 2),), ([1], [2]), (1, [2]), {0: 1, 1: 2}, (1, {}),
    (GREAT, -GREAT), (0, -1), (-1, 0), (1, Unfit()),
]
BAD_SIGNS = [
    "", "abcdef", "ba", "aa", "aba", "abb", "acb", "a1", "1", "Ab", "A", "a ", " a", "a\n", "a.", ".", "a-", "`a", "a{",
    "{", "`", "_", "\u00e9", "a\u00e9", "abcdefghijklmnopqrstuvwxyz", "a" * 20000,
]


class Right(Calls):
    def test_examples(self):
        for value in (WORN, FAIR, RING, ONE):
            self.tells(None, chain_error, value=value)

    def test_chains_of_all_sizes(self):
        for chain in CHAINS:
            self.tells(None, chain_error, value=chain)

    def test_the_bounds(self):
        line = (0, 0, 0, 0, 0, 10 ** 400 - 1)
        self.tells(None, chain_error, value=("avwxz", line, (line,) * 6, ((0, 0, 1, 0, 0),) * 6))
        self.tells(None, chain_error, value=("a", (1,), ((1,),), ((GREAT,),)))
        for sign in "abcdefghijklmnopqrstuvwxyz":
            self.tells(None, chain_error, value=(sign, (1,), ((1,),), ((1,),)))


class Form(Calls):
    def test_examples(self):
        self.tells("form", chain_error, value=WORN[:3])
        self.tells("form", chain_error, value=list(WORN))

    def test_what_is_no_quadruple(self):
        for value in NOT_STRINGS + ["", "form", "abcd", WORN + (1,), WORN + WORN, (WORN,), [WORN], dict(enumerate(WORN))]:
            self.tells("form", chain_error, value=value)
        self.tells("form", chain_error, value=BadChain(WORN))

    def test_quadruples_of_other_things(self):
        for value in [(None,) * 4, (0, 1, 2, 3), ((), (), (), ()), ([], [], [], []), ({}, {}, {}, {})]:
            self.tells("signs", chain_error, value=value)


class Faults(Calls):
    def faulty(self, chain, place, item):
        return chain[:place] + (item,) + chain[place + 1:]

    def test_examples(self):
        for signs in ("ba", "a1", ""):
            self.tells("signs", chain_error, value=self.faulty(WORN, 0, signs))
        for start in ((0, 0), (1, -1), (1, True)):
            self.tells("start", chain_error, value=self.faulty(WORN, 1, start))
        self.tells("steps", chain_error, value=self.faulty(WORN, 1, (1,)))
        self.tells("steps", chain_error, value=self.faulty(WORN, 2, WORN[2][:1]))
        self.tells(("steps", 1), chain_error, value=self.faulty(WORN, 2, ((1, 1), (0, 0))))
        self.tells(("steps", 0), chain_error, value=self.faulty(WORN, 2, ((1,), (0, 1))))
        self.tells(("tells", 1), chain_error, value=self.faulty(WORN, 3, ((1, 0), (1, 3, 0))))
        self.tells("tells", chain_error, value=self.faulty(WORN, 3, WORN[2] * 2))
        self.tells("tells", chain_error, value=self.faulty(WORN, 3, None))

    def test_signs(self):
        for signs in BAD_SIGNS + NOT_STRINGS + [["a", "b"], ("a", "b")]:
            self.tells("signs", chain_error, value=self.faulty(WORN, 0, signs))

    def test_start(self):
        for line in NO_LINES + [(1,) * 7, (1,) * 4000, (0,) * 6 + (1,)]:
            self.tells("start", chain_error, value=self.faulty(WORN, 1, line))

    def test_seven_states(self):
        self.tells("start", chain_error, value=("ab", (1,) * 7, ((1,) * 7,) * 7, ((1, 1),) * 7))

    def test_start_tells_how_many_states(self):
        for start in ((1,), (1, 1, 1), (1, 0, 0, 0, 0, 0)):
            self.tells("steps", chain_error, value=self.faulty(WORN, 1, start))

    def test_no_tuples_of_so_many_lines(self):
        for place, word in ((2, "steps"), (3, "tells")):
            lines = WORN[place]
            for item in [None, 0, True, "", "ab", (), [], {}, list(lines), lines[:1], lines + lines[:1], {0: 1, 1: 2}]:
                self.tells(word, chain_error, value=self.faulty(WORN, place, item))

    def test_a_line_at_each_place(self):
        for chain in CHAINS:
            for place, word in ((2, "steps"), (3, "tells")):
                lines = chain[place]
                for state, line in enumerate(lines):
                    for bad in (list(line), line[:-1], line + (1,), (0,) * len(line), line[:-1] + (-1,), line[:-1] + (True,)):
                        value = self.faulty(chain, place, self.faulty(lines, state, bad))
                        self.tells((word, state), chain_error, value=value)

    def test_lines_of_all_kinds(self):
        for place, word in ((2, "steps"), (3, "tells")):
            for state in (0, 1):
                for bad in NO_LINES + [(1,), (1, 1, 1)]:
                    value = self.faulty(WORN, place, self.faulty(WORN[place], state, bad))
                    self.tells((word, state), chain_error, value=value)

    def test_the_first_one_is_told(self):
        lines = WORN[2]
        faults = [("signs", 0, "ba"), ("start", 1, (0, 0))]
        for place, word in ((2, "steps"), (3, "tells")):
            faults += [
                (word, place, None), ((word, 0), place, (None, None)), ((word, 0), place, ((0, 0), lines[1])),
                ((word, 1), place, (lines[0], (1,))),
            ]
        for wanted, one, first in faults:
            for _, other, second in faults:
                if one < other:
                    value = self.faulty(self.faulty(WORN, one, first), other, second)
                    self.tells(wanted, chain_error, value=value)
        self.tells("form", chain_error, value=("ba", (0, 0), None))
        self.tells("steps", chain_error, value=self.faulty(WORN, 2, ((0, 0),)))
        self.tells("tells", chain_error, value=self.faulty(WORN, 3, ((0, 0),) * 3))

    def test_widths_are_those_of_states_and_signs(self):
        chain = ("abc", (1, 1), ((1, 1), (1, 1)), ((1, 1, 1), (1, 1, 1)))
        self.tells(None, chain_error, value=chain)
        self.tells(("steps", 0), chain_error, value=self.faulty(chain, 2, chain[3]))
        self.tells(("tells", 0), chain_error, value=self.faulty(chain, 3, chain[2]))
        self.tells(("tells", 0), chain_error, value=self.faulty(chain, 0, "ab"))


class Plain(Calls):
    def test_examples(self):
        self.tells(WORN, plain, chain=("ab", (2, 2), ((3, 3), (0, 9)), ((4, 0), (2, 6))))
        self.tells(WORN, plain, chain=WORN)

    def test_each_line_by_its_own_divisor(self):
        chain = ("abc", (6, 10), ((4, 4), (9, 6)), ((0, 0, 5), (14, 21, 35)))
        self.tells(("abc", (3, 5), ((1, 1), (3, 2)), ((0, 0, 1), (2, 3, 5))), plain, chain=chain)
        chain = ("a", (6, 6, 2), ((2, 4, 6), (1, 0, 0), (0, 10, 0)), ((8,), (7,), (GREAT,)))
        self.tells(("a", (3, 3, 1), ((1, 2, 3), (1, 0, 0), (0, 1, 0)), ((1,), (1,), (1,))), plain, chain=chain)

    def test_plain_chains_are_plain(self):
        for chain in CHAINS:
            told = plain(chain)
            self.assertIsNone(chain_error(told))
            self.assertEqual(told[0], chain[0])
            for line, given in zip((told[1],) + told[2] + told[3], (chain[1],) + chain[2] + chain[3]):
                self.assertEqual(math.gcd(*line), 1)
                self.assertEqual(len(line), len(given))
                for place in range(len(line)):
                    self.assertEqual(part(line, place), part(given, place))
            self.tells(told, plain, chain=told)

    def test_the_same_shares_have_the_same_plain_chain(self):
        for chain in CHAINS:
            self.tells(plain(chain), plain, chain=multiplied(chain))
            self.tells(plain(chain), plain, chain=multiplied(multiplied(chain)))

    def test_unlike_shares_have_unlike_plain_chains(self):
        source = random.Random(3)
        for _ in range(50):
            one, other = some_chain(source, 2, 2), some_chain(source, 2, 2)
            shares = [[self.all_shares(chain), chain[0]] for chain in (one, other)]
            self.assertEqual(same(plain(one), plain(other)), shares[0] == shares[1])

    def all_shares(self, chain):
        lines = (chain[1],) + chain[2] + chain[3]
        return [[part(line, place) for place in range(len(line))] for line in lines]


class Shares(Calls):
    def test_examples(self):
        self.tells((1, 2), start_share, chain=WORN, state=1)
        self.tells((1, 2), step_share, chain=WORN, one=0, other=1)
        self.tells((0, 1), step_share, chain=WORN, one=1, other=0)
        self.tells((3, 4), tell_share, chain=WORN, state=1, sign="b")
        self.tells((0, 1), tell_share, chain=WORN, state=0, sign="b")

    def test_lowest_terms(self):
        chain = ("ab", (6, 2), ((4, 0), (2, 8)), ((0, 9), (6, 9)))
        self.tells((3, 4), start_share, chain=chain, state=0)
        self.tells((1, 4), start_share, chain=chain, state=1)
        self.tells((1, 1), step_share, chain=chain, one=0, other=0)
        self.tells((0, 1), step_share, chain=chain, one=0, other=1)
        self.tells((1, 5), step_share, chain=chain, one=1, other=0)
        self.tells((4, 5), step_share, chain=chain, one=1, other=1)
        self.tells((0, 1), tell_share, chain=chain, state=0, sign="a")
        self.tells((1, 1), tell_share, chain=chain, state=0, sign="b")
        self.tells((2, 5), tell_share, chain=chain, state=1, sign="a")
        self.tells((3, 5), tell_share, chain=chain, state=1, sign="b")

    def test_shares_of_all_chains(self):
        for chain in CHAINS:
            signs, start, steps, tells = chain
            for given in (chain, multiplied(chain)):
                for one in range(len(start)):
                    self.tells(pair(part(start, one)), start_share, chain=given, state=one)
                    for other in range(len(start)):
                        wanted = pair(part(steps[one], other))
                        self.tells(wanted, step_share, chain=given, one=one, other=other)
                    for place, sign in enumerate(signs):
                        self.tells(pair(part(tells[one], place)), tell_share, chain=given, state=one, sign=sign)

    def test_the_shares_of_a_line_sum_up_to_1(self):
        for chain in CHAINS:
            states = range(len(chain[1]))
            lines = [[start_share(chain, state) for state in states]]
            lines += [[step_share(chain, one, other) for other in states] for one in states]
            lines += [[tell_share(chain, state, sign) for sign in chain[0]] for state in states]
            for line in lines:
                self.assertEqual(sum(fractions.Fraction(*share) for share in line), 1)
                for above, below in line:
                    self.assertTrue(0 <= above <= below)
                    self.assertEqual(math.gcd(above, below), 1)
