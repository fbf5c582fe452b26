import math
import random

from helpers import Calls
from samples import (
    FAIR, GREAT, RING, SIX, STILL, TWIN, WORN, ahead_worths, behind_worths, courses, multiplied, pair, part, ratio,
    short_views, small_chains, some_chain, some_chains, some_view, summed, told_part, weighed,
)

from veiledchains.along import ahead_table, behind_table, likeliest_states, pairs_told, states_told, told_ahead
from veiledchains.chains import plain
from veiledchains.courses import chance
from veiledchains.errors import Never

CHAIN = ("ab", (1, 1), ((2, 1), (1, 2)), ((3, 1), (1, 3)))
SMALL = small_chains()
MANY = some_chains() + SMALL + [SIX]


def shares(table):
    return tuple(tuple(pair(worth) for worth in line) for line in table)


def ahead_by_courses(chain, view):
    states = range(len(chain[1]))
    table = []
    for place in range(len(view)):
        here = courses(chain, view[:place + 1])
        table.append([sum(weighed(chain, view, one) for one in here if one[place] == state) for state in states])
    return table


def behind_by_courses(chain, view):
    """Of a course that is sure to have a state at a place: the ways on are weighed with a chain that begins there."""
    states = range(len(chain[1]))
    table = []
    for place in range(len(view)):
        line = []
        for state in states:
            there = (chain[0], tuple(1 if one == state else 0 for one in states)) + chain[2:]
            line.append(sum(weighed(there, "." + view[place + 1:], one) for one in courses(chain, view[place:])))
        table.append(line)
    return table


def states_by_courses(chain, view):
    states = range(len(chain[1]))
    worths = [(one, weighed(chain, view, one)) for one in courses(chain, view)]
    whole = sum(worth for _, worth in worths)
    return [
        [sum(worth for one, worth in worths if one[place] == state) / whole for state in states]
        for place in range(len(view))
    ]


def pairs_by_courses(chain, view):
    states = range(len(chain[1]))
    worths = [(one, weighed(chain, view, one)) for one in courses(chain, view)]
    whole = sum(worth for _, worth in worths)
    return [
        [[sum(worth for one, worth in worths if one[place:place + 2] == (here, there)) / whole for there in states]
         for here in states]
        for place in range(len(view) - 1)
    ]


class Tables(Calls):
    def test_examples(self):
        ahead, behind = (((3, 8), (1, 8)), ((7, 96), (5, 32))), (((5, 12), (7, 12)), ((1, 1), (1, 1)))
        self.tells(ahead, ahead_table, chain=CHAIN, view="ab")
        self.tells(behind, behind_table, chain=CHAIN, view="ab")
        self.tells((ahead[0], ((7, 24), (5, 24)), ((19, 288), (17, 96))), ahead_table, chain=CHAIN, view="a.b")
        self.tells((), ahead_table, chain=CHAIN, view="")
        self.tells((((1, 1), (1, 1)), ((1, 1), (1, 1))), behind_table, chain=CHAIN, view="a.")
        self.tells((((1, 1),), ((0, 1),)), ahead_table, chain=STILL, view="ab")

    def test_sums_over_courses(self):
        for chain in SMALL:
            for view in short_views(chain, 3):
                self.assertEqual(ahead_table(chain, view), shares(ahead_by_courses(chain, view)))
                self.assertEqual(behind_table(chain, view), shares(behind_by_courses(chain, view)))

    def test_all_chains(self):
        source = random.Random(21)
        for chain in MANY:
            for length in (0, 1, 2, 7, 40):
                view = some_view(source, chain, length)
                self.tells(shares(ahead_worths(chain, view)), ahead_table, chain=chain, view=view)
                self.tells(shares(behind_worths(chain, view)), behind_table, chain=chain, view=view)

    def test_gaps_at_all_places(self):
        for chain in (CHAIN, TWIN, SIX, WORN, RING):
            for view in (".ab", "a.b", "ab.", "..a", "a..", ".a.", "...", "." * 40, "." + "ab" * 19 + "."):
                self.tells(shares(ahead_worths(chain, view)), ahead_table, chain=chain, view=view)
                self.tells(shares(behind_worths(chain, view)), behind_table, chain=chain, view=view)

    def test_empty_and_one_sign(self):
        for chain in MANY:
            ones = tuple((1, 1) for _ in chain[1])
            self.tells((), ahead_table, chain=chain, view="")
            self.tells((), behind_table, chain=chain, view="")
            for sign in chain[0] + ".":
                line = tuple(pair(part(chain[1], at) * told_part(chain, at, sign)) for at in range(len(chain[1])))
                self.tells((line,), ahead_table, chain=chain, view=sign)
                self.tells((ones,), behind_table, chain=chain, view=sign)

    def test_chance_nought(self):
        nought = ((0, 1), (0, 1))
        self.tells((nought, nought, nought), ahead_table, chain=RING, view="bab")
        self.tells((((0, 1),),) * 40, ahead_table, chain=STILL, view="b" * 40)
        self.tells((((0, 1),), ((0, 1),), ((1, 1),)), behind_table, chain=STILL, view="abb")
        # An a can't come behind the state that tells b alone and is never left.
        one_way = ("ab", (1, 1), ((1, 1), (0, 1)), ((1, 1), (0, 1)))
        self.tells((((1, 4), (0, 1)), ((1, 1), (1, 1))), behind_table, chain=one_way, view=".a")

    def test_great_weights(self):
        source = random.Random(22)
        for chain in some_chains(400)[::3] + [some_chain(source, 6, 5, 400)]:
            view = some_view(source, chain, 3)
            self.tells(shares(ahead_worths(chain, view)), ahead_table, chain=chain, view=view)
            self.tells(shares(behind_worths(chain, view)), behind_table, chain=chain, view=view)
        self.tells((((1, GREAT + 1), (0, 1)),), ahead_table, chain=(
            "ab", (1, GREAT), ((1, 0), (0, 1)), ((GREAT, 0), (0, GREAT))), view="a")


class Told(Calls):
    def test_examples(self):
        parts = (((15, 22), (7, 22)), ((7, 22), (15, 22)))
        self.tells(parts, states_told, chain=CHAIN, view="ab")
        self.tells(((((3, 11), (9, 22)), ((1, 22), (3, 11))),), pairs_told, chain=CHAIN, view="ab")
        self.tells((((3, 4), (1, 4)), ((7, 12), (5, 12))), states_told, chain=CHAIN, view="a.")
        self.tells((0, 1), likeliest_states, chain=CHAIN, view="ab")
        self.tells((0, 0), likeliest_states, chain=CHAIN, view="..")
        self.tells((((1, 1),), ((1, 1),), ((1, 1),)), states_told, chain=STILL, view="a.a")
        self.tells((), pairs_told, chain=STILL, view="a")
        self.refuses(Never(), states_told, chain=STILL, view="ab")

    def test_sums_over_courses(self):
        for chain in SMALL:
            for view in short_views(chain, 3):
                if summed(chain, view) == 0:
                    for function in (states_told, pairs_told, likeliest_states):
                        self.assertRaises(Never, function, chain, view)
                    continue
                wanted = states_by_courses(chain, view)
                self.assertEqual(states_told(chain, view), shares(wanted))
                self.assertEqual(likeliest_states(chain, view), tuple(line.index(max(line)) for line in wanted))
                wanted = tuple(shares(table) for table in pairs_by_courses(chain, view))
                self.assertEqual(pairs_told(chain, view), wanted)

    def test_all_chains(self):
        source = random.Random(23)
        for chain in MANY + some_chains(400)[::7]:
            for length in (0, 1, 2, 3) if max(chain[1]) > 1000 else (0, 1, 2, 6, 40):
                view = some_view(source, chain, length)
                whole = summed(chain, view)
                if whole == 0:
                    for function in (states_told, pairs_told, likeliest_states):
                        self.refuses(Never(), function, chain=chain, view=view)
                    continue
                ahead, behind = ahead_worths(chain, view), behind_worths(chain, view)
                table = [[f * g / whole for f, g in zip(*lines)] for lines in zip(ahead, behind)]
                self.tells(shares(table), states_told, chain=chain, view=view)
                likeliest = tuple(line.index(max(line)) for line in table)
                self.tells(likeliest, likeliest_states, chain=chain, view=view)
                states = range(len(chain[1]))
                pairs = []
                for place in range(len(view) - 1):
                    ways = [told_part(chain, at, view[place + 1]) * behind[place + 1][at] for at in states]
                    pairs.append(shares(
                        [[ahead[place][one] * part(chain[2][one], at) * ways[at] / whole for at in states]
                         for one in states]))
                self.tells(tuple(pairs), pairs_told, chain=chain, view=view)

    def test_never_exactly_at_chance_nought(self):
        for function in (states_told, pairs_told, likeliest_states):
            for chain, view in ((STILL, "b"), (STILL, "." * 39 + "b"), (RING, "b"), (RING, "ba"), (WORN, "ba" * 20)):
                if chance(chain, view) == (0, 1):
                    self.refuses(Never(), function, chain=chain, view=view)
        self.refuses(Never(), pairs_told, chain=STILL, view="b")
        self.refuses(Never(), pairs_told, chain=STILL, view="bb")
        for chain in MANY:
            for function in (states_told, pairs_told, likeliest_states):
                self.tells((), function, chain=chain, view="")

    def test_pairs_of_one_sign(self):
        for chain in MANY:
            for sign in chain[0] + ".":
                if chance(chain, sign) == (0, 1):
                    self.refuses(Never(), pairs_told, chain=chain, view=sign)
                else:
                    self.tells((), pairs_told, chain=chain, view=sign)

    def test_ties_and_near_ties(self):
        self.tells((0,) * 40, likeliest_states, chain=SIX[:2] + (((1,) * 6,) * 6,) + SIX[3:], view="." * 40)
        self.tells((1, 1), likeliest_states, chain=("ab", (1, 2, 2), ((1, 2, 2),) * 3, ((1, 1),) * 3), view="ab")
        great = 10 ** 30
        for line, wanted in (((great, great + 1), 1), ((great + 1, great), 0), ((great, great), 0)):
            near = ("ab", line, (line, line), ((1, 1), (1, 1)))
            self.tells((wanted,) * 3, likeliest_states, chain=near, view="a.b")
            self.tells(
                ((pair(part(line, 0)), pair(part(line, 1))),) * 3, states_told, chain=near, view="a.b")


class Ahead(Calls):
    def test_examples(self):
        self.tells((1, 2), told_ahead, chain=CHAIN, view="", sign="a")
        self.tells((31, 66), told_ahead, chain=CHAIN, view="ab", sign="a")
        self.tells((35, 66), told_ahead, chain=CHAIN, view="ab", sign="b")
        self.tells((0, 1), told_ahead, chain=STILL, view="..", sign="b")
        self.refuses(Never(), told_ahead, chain=STILL, view="b", sign="a")

    def test_quotients_of_chances(self):
        source = random.Random(24)
        for chain in MANY + some_chains(400)[::7]:
            for length in (0, 1, 3) if max(chain[1]) > 1000 else (0, 1, 2, 5, 40):
                for view in (some_view(source, chain, length), "." * length):
                    whole = summed(chain, view)
                    for sign in chain[0]:
                        if whole == 0:
                            self.refuses(Never(), told_ahead, chain=chain, view=view, sign=sign)
                        else:
                            wanted = pair(summed(chain, view + sign) / whole)
                            self.tells(wanted, told_ahead, chain=chain, view=view, sign=sign)

    def test_never_for_all_signs(self):
        for view in ("b", "ab", "." * 39 + "b", "b" * 40):
            for sign in "ab":
                self.refuses(Never(), told_ahead, chain=STILL, view=view, sign=sign)
        self.tells((1, 1), told_ahead, chain=STILL, view="a" * 40, sign="a")
        self.tells((0, 1), told_ahead, chain=STILL, view="a" * 40, sign="b")
        self.tells((0, 1), told_ahead, chain=RING, view="", sign="b")


class WhatHolds(Calls):
    def views(self, lengths=(1, 2, 5, 40)):
        source = random.Random(25)
        for chain in MANY:
            for length in lengths:
                yield chain, some_view(source, chain, length)

    def test_ahead_times_behind_is_the_chance(self):
        for chain, view in self.views():
            for ahead, behind in zip(ahead_table(chain, view), behind_table(chain, view)):
                whole = sum(ratio(f) * ratio(g) for f, g in zip(ahead, behind))
                self.assertEqual(pair(whole), chance(chain, view))
            self.assertEqual(pair(sum(map(ratio, ahead_table(chain, view)[-1]))), chance(chain, view))

    def test_told_shares_sum_up(self):
        for chain, view in self.views():
            if chance(chain, view) == (0, 1):
                continue
            told = states_told(chain, view)
            for line in told:
                self.assertEqual(sum(map(ratio, line)), 1)
            for place, table in enumerate(pairs_told(chain, view)):
                self.assertEqual(tuple(pair(sum(map(ratio, line))) for line in table), told[place])
                self.assertEqual(tuple(pair(sum(map(ratio, line))) for line in zip(*table)), told[place + 1])

    def test_signs_ahead_sum_up(self):
        for chain, view in self.views((0, 1, 5, 40)):
            if chance(chain, view) != (0, 1):
                self.assertEqual(sum(ratio(told_ahead(chain, view, sign)) for sign in chain[0]), 1)

    def test_product_along_a_row(self):
        source = random.Random(26)
        for chain in MANY:
            for length in (1, 4, 12):
                row = some_view(source, chain, length, 0)
                if chance(chain, row) != (0, 1):
                    steps = [ratio(told_ahead(chain, row[:place], row[place])) for place in range(length)]
                    self.assertEqual(pair(math.prod(steps)), chance(chain, row))

    def test_gaps_behind_change_nothing(self):
        for chain, view in self.views((0, 1, 4)):
            self.assertEqual(ahead_table(chain, view + "...")[:len(view)], ahead_table(chain, view))
            self.assertEqual(behind_table(chain, view + "...")[:len(view)], behind_table(chain, view))
            if chance(chain, view) != (0, 1):
                self.assertEqual(states_told(chain, view + "...")[:len(view)], states_told(chain, view))
                pairs = max(0, len(view) - 1)
                self.assertEqual(pairs_told(chain, view + "...")[:pairs], pairs_told(chain, view))
                self.assertEqual(likeliest_states(chain, view + "...")[:len(view)], likeliest_states(chain, view))

    def test_chains_with_the_same_shares(self):
        for chain, view in self.views():
            for other in (multiplied(chain), plain(chain)):
                for function in (ahead_table, behind_table):
                    self.tells(function(chain, view), function, chain=other, view=view)
                if chance(chain, view) != (0, 1):
                    for function in (states_told, pairs_told, likeliest_states):
                        self.tells(function(chain, view), function, chain=other, view=view)
                    for sign in chain[0]:
                        told = told_ahead(chain, view, sign)
                        self.tells(told, told_ahead, chain=other, view=view, sign=sign)

    def test_the_same_calls_again(self):
        asked = [{"chain": chain, "view": view} for chain in (CHAIN, FAIR, RING, TWIN) for view in ("ab", "b", "", "a.")]
        for function in (ahead_table, behind_table, states_told, pairs_told, likeliest_states):
            self.tells_again(function, asked)
        self.tells_again(told_ahead, [dict(given, sign=sign) for given in asked for sign in "ab"])

    def test_somewhat_beyond_the_limits(self):
        wide = ("abcdef", (1,) * 7, ((1,) * 7,) * 7, ((1,) * 6,) * 7)
        self.tells((((1, 7),) * 7,) * 50, states_told, chain=wide, view="f" * 50)
        self.tells((1, 6), told_ahead, chain=wide, view="a" * 45, sign="f")
