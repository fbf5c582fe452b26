import fractions
import itertools
import random

from helpers import Calls
from samples import (
    EVEN, FAIR, HOP, RING, SIX, STILL, TWIN, WORN, courses, ever_and_mean, multiplied, pair, ratio, small_chains,
    some_chain, some_chains, some_machine, some_view, summed, walked, weighed,
)

from veiledchains.along import states_told
from veiledchains.best import best_course
from veiledchains.chains import plain
from veiledchains.courses import chance, course_chance
from veiledchains.errors import Never, TooMany, Unfit
from veiledchains.machines import both, either, least_machine, taken, turned, word_machine
from veiledchains.words import first_ends, mean_wait, meets, sure_word
from veiledchains.worlds import best_taken, ever_share, first_taken, mean_taken, taken_share, taken_states

LAME = ("ab", (1, 1, 0), ((1, 0, 0), (0, 1, 1), (0, 0, 1)), ((1, 0), (1, 1), (0, 1)))
EVENLY = ("ab", 0, ((0, 1), (1, 0)), (0,))
GONE = ("ab", 0, ((1, 2), (1, 1), (2, 2)), (2,))
AB = word_machine("ab", "ab")
SMALL = small_chains()
MANY = some_chains() + SMALL + [SIX]


def all_rows(signs):
    return (signs, 0, ((0,) * len(signs),), (0,))


def no_rows(signs):
    return (signs, 0, ((0,) * len(signs),), ())


def with_machines(seed, chains=MANY, many=2):
    source = random.Random(seed)
    for chain in chains:
        for _ in range(many):
            yield source, chain, some_machine(source, chain[0], source.randrange(1, 9))


def rows_of(chain, length):
    return ["".join(signs) for signs in itertools.product(chain[0], repeat=length)]


def stories(chain, machine, view):
    """All taken stories, with their chances as Fractions."""
    fits = [chain[0] if sign == "." else sign for sign in view]
    for row in map("".join, itertools.product(*fits)):
        if walked(machine, row):
            for course in courses(chain, view):
                yield (row, course), weighed(chain, row, course)


def swept(chain, machine, length):
    """The shares of taken_share and of first_taken, length by length, by tables of Fractions from beat to beat."""
    shares, firsts = [], []
    tables = [{(state, machine[1]): fractions.Fraction(chain[1][state], sum(chain[1])) for state in range(len(chain[1]))}
              for _ in range(2)]
    for _ in range(length + 1):
        ended = [sum(worth for (_, stand), worth in table.items() if stand in machine[3]) for table in tables]
        shares.append(ended[0])
        firsts.append(ended[1])
        tables[1] = {key: worth for key, worth in tables[1].items() if key[1] not in machine[3]}
        tables = [beaten(chain, machine, table) for table in tables]
    return shares, firsts


def beaten(chain, machine, table):
    signs, _, steps, tells = chain
    told = {}
    for (state, stand), worth in table.items():
        for at in range(len(signs)):
            key = (state, machine[2][stand][at])
            told[key] = told.get(key, 0) + worth * fractions.Fraction(tells[state][at], sum(tells[state]))
    gone = {}
    for (state, stand), worth in told.items():
        for other, weight in enumerate(steps[state]):
            gone[other, stand] = gone.get((other, stand), 0) + worth * fractions.Fraction(weight, sum(steps[state]))
    return gone


class Shares(Calls):
    def test_examples(self):
        for length, wanted in ((0, (1, 1)), (1, (5, 8)), (2, (13, 24))):
            self.tells(wanted, taken_share, chain=FAIR, machine=EVENLY, length=length)
        self.tells((1, 2), taken_share, chain=RING, machine=EVENLY, length=2)
        self.tells((25, 32), taken_share, chain=RING, machine=AB, length=4)
        wanted = ((0, 1), (0, 1), (1, 2), (1, 8), (5, 32))
        self.tells(wanted, first_taken, chain=RING, machine=AB, length=4)
        self.tells(((1, 1), (0, 1), (0, 1)), first_taken, chain=FAIR, machine=EVENLY, length=2)
        self.tells(((0, 1), (3, 8), (15, 64)), first_taken, chain=FAIR, machine=turned(EVENLY), length=2)
        self.tells(((0, 1), (1, 4), (3, 16), (3, 64)), first_taken, chain=LAME, machine=word_machine("ab", "b"), length=3)

    def test_all_rows_one_by_one(self):
        for _, chain, machine in with_machines(71, SMALL, 3):
            firsts = []
            for length in range(4):
                rows = rows_of(chain, length)
                wanted = sum(summed(chain, row) for row in rows if walked(machine, row))
                self.tells(pair(fractions.Fraction(wanted)), taken_share, chain=chain, machine=machine, length=length)
                fresh = [row for row in rows if walked(machine, row)
                         and not any(walked(machine, row[:many]) for many in range(length))]
                firsts.append(pair(fractions.Fraction(sum(summed(chain, row) for row in fresh))))
                self.tells(tuple(firsts), first_taken, chain=chain, machine=machine, length=length)

    def test_all_lengths(self):
        for _, chain, machine in with_machines(72):
            shares, firsts = swept(chain, machine, 40)
            for length in (0, 1, 2, 17, 40):
                self.tells(pair(shares[length]), taken_share, chain=chain, machine=machine, length=length)
            for length in (0, 5, 40):
                wanted = tuple(map(pair, firsts[:length + 1]))
                self.tells(wanted, first_taken, chain=chain, machine=machine, length=length)

    def test_all_and_none(self):
        for chain in MANY:
            for length in (0, 1, 40):
                self.tells((1, 1), taken_share, chain=chain, machine=all_rows(chain[0]), length=length)
                self.tells((0, 1), taken_share, chain=chain, machine=no_rows(chain[0]), length=length)
                noughts = ((0, 1),) * length
                self.tells(((1, 1),) + noughts, first_taken, chain=chain, machine=all_rows(chain[0]), length=length)
                self.tells(((0, 1),) + noughts, first_taken, chain=chain, machine=no_rows(chain[0]), length=length)

    def test_turned_both_and_either(self):
        for source, chain, machine in with_machines(73):
            for length in (0, 1, 7, 40):
                told = ratio(taken_share(chain, machine, length)) + ratio(taken_share(chain, turned(machine), length))
                self.assertEqual(told, 1)
            other = some_machine(source, chain[0], 3)
            try:
                joined, shared = either(machine, other), both(machine, other)
            except TooMany:
                continue
            for length in (0, 1, 7):
                one, two, three, four = [
                    ratio(taken_share(chain, which, length)) for which in (joined, shared, machine, other)]
                self.assertEqual(one + two, three + four)

    def test_words(self):
        source = random.Random(74)
        for chain in MANY:
            for length in (0, 3, 40):
                word = some_view(source, chain, source.randrange(1, 7), 0)
                machine = word_machine(chain[0], word)
                self.tells(meets(chain, word, length), taken_share, chain=chain, machine=machine, length=length)
                wanted = ((0, 1),) + first_ends(chain, word, length)
                self.tells(wanted, first_taken, chain=chain, machine=machine, length=length)


class Stories(Calls):
    def test_examples(self):
        wanted = (((1, 1), (0, 1)), ((0, 1), (1, 1)), ((1, 2), (1, 2)))
        self.tells(wanted, taken_states, chain=RING, machine=EVENLY, view="a..")
        self.tells(("aaa", (0, 1, 0), (1, 4)), best_taken, chain=RING, machine=EVENLY, view="a..")
        self.tells(("aa", (0, 0), (3, 16)), best_taken, chain=FAIR, machine=EVENLY, view="..")
        self.tells(("bb", (1, 1), (3, 32)), best_taken, chain=FAIR, machine=EVENLY, view="b.")
        self.tells(("", (), (1, 1)), best_taken, chain=FAIR, machine=EVENLY, view="")
        self.tells((), taken_states, chain=FAIR, machine=EVENLY, view="")
        self.refuses(Never(), taken_states, chain=RING, machine=EVENLY, view="ab")
        self.refuses(Never(), best_taken, chain=FAIR, machine=turned(EVENLY), view="")

    def check(self, chain, machine, view):
        told = [(story, worth) for story, worth in stories(chain, machine, view) if worth]
        given = {"chain": chain, "machine": machine, "view": view}
        if not told:
            self.refuses(Never(), taken_states, **given)
            self.refuses(Never(), best_taken, **given)
            return None
        whole = sum(worth for _, worth in told)
        states = range(len(chain[1]))
        wanted = tuple(
            tuple(pair(sum((worth for (_, course), worth in told if course[place] == state), fractions.Fraction(0)) / whole)
                  for state in states) for place in range(len(view)))
        self.tells(wanted, taken_states, **given)
        greatest = max(worth for _, worth in told)
        story = min(story for story, worth in told if worth == greatest)
        self.tells(story + (pair(greatest),), best_taken, **given)
        return [story for story, worth in told if worth == greatest]

    def test_all_stories_of_short_views(self):
        ties = 0
        for source, chain, machine in with_machines(75, SMALL, 4):
            for length in (0, 1, 2, 3, 3):
                best = self.check(chain, machine, some_view(source, chain, length, 3))
                ties += best is not None and len({row for row, _ in best}) > 1
            self.check(chain, machine, "..")
        self.assertGreater(ties, 9)

    def test_stories_of_chains_with_more_states(self):
        for source, chain, machine in with_machines(76, some_chains()[::2], 2):
            view = some_view(source, chain, 3, 2)
            if view.count(".") < 3:
                self.check(chain, machine, view)

    def test_the_least_row_ahead_of_the_least_course(self):
        # The row ab with the course (1, 0) and the row ba with (0, 1) have the same chance: the row decides.
        chain = ("ab", (1, 1), ((0, 1), (1, 0)), ((0, 1), (1, 0)))
        self.assertEqual(self.check(chain, EVENLY, "."), [("a", (1,))])
        odd = turned(EVENLY)
        self.assertEqual(self.check(chain, odd, ".."), [("ab", (1, 0)), ("ba", (0, 1))])
        self.tells(("ab", (1, 0), (1, 2)), best_taken, chain=chain, machine=odd, view="..")
        self.check(EVEN, EVENLY, "....")
        self.tells(("a" * 40, (0,) * 40, pair(fractions.Fraction(3, 8) ** 40)), best_taken,
                   chain=EVEN, machine=EVENLY, view="." * 40)
        alike = ("ab", (1, 1), ((1, 1), (1, 1)), ((1, 1), (1, 1)))
        self.tells(("a" * 39 + "b", (0,) * 40, (1, 4 ** 40)), best_taken, chain=alike, machine=odd, view="." * 40)
        self.tells(("b" + "a" * 38 + "b", (0,) * 40, (1, 4 ** 40)), best_taken,
                   chain=alike, machine=EVENLY, view="b" + "." * 39)

    def test_empty_view(self):
        for _, chain, machine in with_machines(77):
            given = {"chain": chain, "machine": machine, "view": ""}
            if walked(machine, ""):
                self.tells((), taken_states, **given)
                self.tells(("", (), (1, 1)), best_taken, **given)
            else:
                self.refuses(Never(), taken_states, **given)
                self.refuses(Never(), best_taken, **given)

    def test_long_views(self):
        for source, chain, machine in with_machines(78):
            for gaps in (0, 3):
                view = some_view(source, chain, 40, gaps)
                given = {"chain": chain, "machine": machine, "view": view}
                if gaps == 0 and not (taken(machine, view) and chance(chain, view) != (0, 1)):
                    self.refuses(Never(), taken_states, **given)
                    self.refuses(Never(), best_taken, **given)
                    continue
                try:
                    row, course, share = best_taken(**given)
                except Never:
                    self.refuses(Never(), taken_states, **given)
                    continue
                self.assertTrue(taken(machine, row))
                self.assertTrue(all(sign in (".", told) for sign, told in zip(view, row)))
                self.assertEqual((course, share), best_course(chain, row))
                self.assertEqual(course_chance(chain, row, course), share)
                table = taken_states(**given)
                self.assertEqual(len(table), 40)
                for line in table:
                    self.assertEqual(sum(map(ratio, line)), 1)
                if gaps == 0:
                    self.tells(states_told(chain, view), taken_states, **given)
                    self.tells((view,) + best_course(chain, view), best_taken, **given)

    def test_gaps_alone(self):
        """Of 40 gaps the states at the first place are beside the shares of chains that begin there."""
        for _, chain, machine in with_machines(79):
            told = taken_share(chain, machine, 40)
            if told == (0, 1):
                self.refuses(Never(), taken_states, chain=chain, machine=machine, view="." * 40)
                continue
            line = taken_states(chain, machine, "." * 40)[0]
            for state in range(len(chain[1])):
                begun = (chain[0], tuple(int(at == state) for at in range(len(chain[1])))) + chain[2:]
                worth = fractions.Fraction(chain[1][state], sum(chain[1])) * ratio(taken_share(begun, machine, 40))
                self.assertEqual(line[state], pair(worth / ratio(told)))

    def test_all_rows_and_states_told(self):
        source = random.Random(80)
        for chain in MANY:
            for length in (0, 1, 6, 40):
                view = some_view(source, chain, length)
                given = {"chain": chain, "machine": all_rows(chain[0]), "view": view}
                if chance(chain, view) == (0, 1):
                    self.refuses(Never(), taken_states, **given)
                else:
                    self.tells(states_told(chain, view), taken_states, **given)
                given["machine"] = no_rows(chain[0])
                self.refuses(Never(), taken_states, **given)
                self.refuses(Never(), best_taken, **given)


class Ever(Calls):
    def test_examples(self):
        b = word_machine("ab", "b")
        self.tells((1, 2), ever_share, chain=LAME, machine=b)
        self.tells(None, mean_taken, chain=LAME, machine=b)
        self.tells((1, 1), ever_share, chain=RING, machine=AB)
        self.tells((7, 2), mean_taken, chain=RING, machine=AB)
        self.tells((0, 1), mean_taken, chain=FAIR, machine=EVENLY)
        self.tells((0, 1), ever_share, chain=RING, machine=both(EVENLY, turned(EVENLY)))
        for chain, wanted in ((FAIR, (3, 8)), (RING, (0, 1)), (LAME, (1, 4))):
            self.tells(wanted, ever_share, chain=chain, machine=GONE)
            self.tells(None, mean_taken, chain=chain, machine=GONE)

    def test_equations(self):
        kinds = {}
        for _, chain, machine in with_machines(81, MANY + SMALL + SMALL, 3):
            ever, mean = ever_and_mean(chain, machine)
            self.tells(pair(fractions.Fraction(ever)), ever_share, chain=chain, machine=machine)
            wanted = None if mean is None else pair(fractions.Fraction(mean))
            self.tells(wanted, mean_taken, chain=chain, machine=machine)
            kinds[ever if ever in (0, 1) else 2] = True
        self.assertEqual(set(kinds), {0, 1, 2})

    def test_states_that_are_never_left(self):
        """Chains with few steps, machines with stands that are never left: shares between 0 and 1."""
        source = random.Random(82)
        between = 0
        for _ in range(150):
            states, signs = source.randrange(1, 7), source.randrange(1, 4)
            chain = some_chain(source, states, signs)
            steps = tuple(line if source.randrange(3) else tuple(int(at == state) for at in range(states))
                          for state, line in enumerate(chain[2]))
            chain = chain[:2] + (steps,) + chain[3:]
            machine = some_machine(source, chain[0], source.randrange(2, 9))
            lines = tuple(line if source.randrange(3) else (at,) * signs for at, line in enumerate(machine[2]))
            machine = machine[:2] + (lines, machine[3][:2])
            ever, mean = ever_and_mean(chain, machine)
            self.tells(pair(fractions.Fraction(ever)), ever_share, chain=chain, machine=machine)
            wanted = None if mean is None else pair(fractions.Fraction(mean))
            self.tells(wanted, mean_taken, chain=chain, machine=machine)
            between += 0 < ever < 1
        self.assertGreater(between, 7)

    def test_six_states_with_eight_stands(self):
        source = random.Random(83)
        late = tuple((0, at + 1) if at < 7 else (7, 7) for at in range(8))
        for machine in (("ab", 0, late, (7,)), some_machine(source, "ab", 8)):
            chain = ("ab",) + some_chain(source, 6, 2)[1:]
            ever, mean = ever_and_mean(chain, machine)
            self.tells(pair(ever), ever_share, chain=chain, machine=machine)
            self.tells(None if mean is None else pair(mean), mean_taken, chain=chain, machine=machine)
        coin = ("ab", (1,) * 6, ((1,) * 6,) * 6, ((1, 1),) * 6)
        # Seven b's one behind another, of an even coin: 2 + 4 + .. + 128 signs.
        self.tells((254, 1), mean_taken, chain=coin, machine=("ab", 0, late, (7,)))
        self.tells((1, 1), ever_share, chain=coin, machine=("ab", 0, late, (7,)))

    def test_nought_and_one(self):
        for _, chain, machine in with_machines(84):
            begun = machine[:3] + (tuple(sorted({machine[1], 0})),)
            self.tells((1, 1), ever_share, chain=chain, machine=begun)
            self.tells((0, 1), mean_taken, chain=chain, machine=begun)
            self.tells((0, 1), ever_share, chain=chain, machine=machine[:3] + ((),))
            self.tells(None, mean_taken, chain=chain, machine=machine[:3] + ((),))
        # The stand of ends is there, but this chain never leads to it.
        self.tells((0, 1), ever_share, chain=STILL, machine=word_machine("ab", "b"))
        self.tells((0, 1), ever_share, chain=HOP, machine=word_machine("ab", "bb"))
        self.tells((1, 1), ever_share, chain=STILL, machine=word_machine("ab", "aaa"))
        self.tells((3, 1), mean_taken, chain=STILL, machine=word_machine("ab", "aaa"))

    def test_words(self):
        source = random.Random(85)
        for chain in MANY + [LAME]:
            for many in (1, 2, 4, 6):
                word = some_view(source, chain, many, 0)
                machine = word_machine(chain[0], word)
                self.assertEqual(ever_share(chain, machine) == (1, 1), sure_word(chain, word))
                self.tells(mean_wait(chain, word), mean_taken, chain=chain, machine=machine)

    def test_never_less_than_any_length_tells(self):
        for _, chain, machine in with_machines(86):
            ever = ratio(ever_share(chain, machine))
            firsts = list(map(ratio, first_taken(chain, machine, 40)))
            self.assertLessEqual(sum(firsts), ever)
            for length in (0, 1, 5, 40):
                self.assertLessEqual(ratio(taken_share(chain, machine, length)), ever)
            mean = mean_taken(chain, machine)
            if mean is not None:
                self.assertLessEqual(sum(many * share for many, share in enumerate(firsts)), ratio(mean))
                self.assertLessEqual(sum(1 - sum(firsts[:many + 1]) for many in range(41)), ratio(mean))


class WhatHolds(Calls):
    def test_unlike_signs(self):
        for signs in ("a", "abc", "ac", "bc", "z", "abcde"):
            machine = (signs, 0, ((0,) * len(signs),), ())
            for chain in (FAIR, RING, STILL):
                self.refuses(Unfit(), taken_share, chain=chain, machine=machine, length=0)
                self.refuses(Unfit(), taken_share, chain=chain, machine=machine, length=40)
                self.refuses(Unfit(), first_taken, chain=chain, machine=machine, length=2)
                for view in ("", "b", "ab.", "bb"):
                    self.refuses(Unfit(), taken_states, chain=chain, machine=machine, view=view)
                    self.refuses(Unfit(), best_taken, chain=chain, machine=machine, view=view)
                self.refuses(Unfit(), ever_share, chain=chain, machine=machine)
                self.refuses(Unfit(), mean_taken, chain=chain, machine=machine)

    def told(self, chain, machine, view):
        yield taken_share, {"chain": chain, "machine": machine, "length": len(view)}
        yield first_taken, {"chain": chain, "machine": machine, "length": len(view)}
        yield ever_share, {"chain": chain, "machine": machine}
        yield mean_taken, {"chain": chain, "machine": machine}
        yield taken_states, {"chain": chain, "machine": machine, "view": view}
        yield best_taken, {"chain": chain, "machine": machine, "view": view}

    def test_the_same_shares_and_rows(self):
        for source, chain, machine in with_machines(87):
            for length in (0, 3):
                view = some_view(source, chain, length, 2)
                for function, given in self.told(chain, machine, view):
                    wanted = list(self.outcomes(function, given))[0]
                    for other in (multiplied(chain), plain(chain)):
                        self.tells(wanted, function, **dict(given, chain=other))
                    self.tells(wanted, function, **dict(given, machine=least_machine(machine)))

    def test_the_same_calls_again(self):
        calls = {}
        for _, chain, machine in with_machines(88, [FAIR, RING, TWIN, WORN, LAME], 3):
            for function, given in self.told(chain, machine, "a.."):
                calls.setdefault(function, []).append(given)
        for function, asked in calls.items():
            self.tells_again(function, asked)

    def test_beyond_the_limits(self):
        wide = ("abcdef", (1,) * 7, ((1,) * 7,) * 7, ((1,) * 6,) * 7)
        machine = word_machine("abcdef", "fffffff")
        self.tells((0, 1), taken_share, chain=wide, machine=machine, length=6)
        self.tells((1, 6 ** 7), taken_share, chain=wide, machine=machine, length=7)
        self.tells((1, 1), ever_share, chain=wide, machine=machine)
        self.tells((sum(6 ** many for many in range(1, 8)), 1), mean_taken, chain=wide, machine=machine)
        self.assertEqual(len(first_taken(wide, machine, 50)), 51)
        self.assertEqual(best_taken(wide, turned(machine), "." * 45)[0], "a" * 45)
