import fractions
import itertools
import random

from helpers import Calls
from samples import (
    EVEN, FAIR, GREAT, HOP, ONE, RING, SIX, STILL, TWIN, TWO, WORN, ahead_worths, behind_worths, courses, multiplied, pair,
    part, ratio, small_chains, some_chain, some_chains, some_heap, some_line, some_view, told_part, weighed, with_idle_state,
)

from veiledchains.chains import chain_error, plain
from veiledchains.courses import possible_count
from veiledchains.errors import Never, TooMany
from veiledchains.heaps import heap_chance, heap_error
from veiledchains.learning import counted, counts, learned, led, pairs_chance, rests

FRACTION = fractions.Fraction
SMALL = small_chains()
MANY = some_chains() + SMALL + [SIX]


def noughts(chain):
    """Lines of noughts: one for start, those for steps and those for tells."""
    states = len(chain[1])
    return [[FRACTION(0)] * states] + [[FRACTION(0)] * states for _ in chain[1]] + [
        [FRACTION(0)] * len(chain[0]) for _ in chain[1]]


def take_in(chain, lines, row, course, worth):
    """Adds worth wherever this course of this row goes."""
    states = len(chain[1])
    for place, state in enumerate(course):
        lines[course[place - 1] + 1 if place else 0][state] += worth
        lines[1 + states + state][chain[0].index(row[place])] += worth


def counts_by_choices(chain, heap):
    """The counts by all courses, and all signs in the place of each gap."""
    lines = noughts(chain)
    for view, times in heap:
        rows = list(map("".join, itertools.product(*[chain[0] if sign == "." else sign for sign in view])))
        worths = [(row, course, weighed(chain, row, course)) for row in rows for course in courses(chain, view)]
        whole = sum(worth for _, _, worth in worths)
        for row, course, worth in worths:
            take_in(chain, lines, row, course, times * worth / whole)
    return lines


def counts_by_tables(chain, heap):
    """The counts by Fractions, place by place."""
    lines = noughts(chain)
    states = range(len(chain[1]))
    for view, times in heap:
        ahead, behind = ahead_worths(chain, view), behind_worths(chain, view)
        whole = sum(ahead[-1]) / times if view else 1
        for place, seen in enumerate(view):
            for state in states:
                here = ahead[place][state] * behind[place][state] / whole
                if place == 0:
                    lines[0][state] += here
                for at, sign in enumerate(chain[0]):
                    if seen in (sign, "."):
                        lines[1 + len(states) + state][at] += here * (told_part(chain, state, sign) if seen == "." else 1)
                if place + 1 < len(view):
                    for to in states:
                        go = part(chain[2][state], to) * told_part(chain, to, view[place + 1]) * behind[place + 1][to]
                        lines[1 + state][to] += ahead[place][state] * go / whole
    return lines


def formed(chain, lines):
    table = tuple(tuple(map(pair, line)) for line in lines)
    return (table[0], table[1:1 + len(chain[1])], table[1 + len(chain[1]):])


def lines_of(chain):
    return [chain[1], *chain[2], *chain[3]]


class Learning(Calls):
    def check_proportion(self, chain, lines, made):
        """made is plain, and its lines are those in proportion to lines, or chain's where nothing is counted."""
        self.assertIsNone(chain_error(made))
        self.assertEqual(plain(made), made)
        self.assertEqual([made[0], len(made[1])], [chain[0], len(chain[1])])
        for line, old, new in zip(lines, lines_of(chain), lines_of(made)):
            if not any(line):
                line = old
            whole = FRACTION(sum(line))
            self.assertEqual([worth / whole for worth in line], [part(new, at) for at in range(len(new))])
            for before, after in zip(old, new):
                self.assertTrue(before or not after)

    def check(self, chain, heap, by):
        """All that is learnt; whether it rests, or None where the heap never comes."""
        self.assertIsNone(heap_error(chain, heap))
        if any(possible_count(chain, view) == 0 for view, _ in heap):
            self.assertEqual(heap_chance(chain, heap), (0, 1))
            for function in (counts, learned, rests):
                self.refuses(Never(), function, chain=chain, heap=heap)
            self.refuses(Never(), led, chain=chain, heap=heap, turns=1)
            return None
        lines = by(chain, heap)
        told = counts(chain, heap)
        self.assertEqual(told, formed(chain, lines))
        made = learned(chain, heap)
        self.check_proportion(chain, lines, made)
        self.assertIs(rests(chain, heap), made == plain(chain))
        before, after = ratio(heap_chance(chain, heap)), ratio(heap_chance(made, heap))
        self.assertGreaterEqual(after, before)
        self.assertIs(after == before, rests(chain, heap))
        self.check_sums(chain, heap, told)
        return rests(chain, heap)

    def check_sums(self, chain, heap, told):
        start, steps, tells = [[list(map(ratio, line)) for line in lines] for lines in ((told[0],), told[1], told[2])]
        self.assertEqual(sum(start[0]), sum(times for view, times in heap if view))
        self.assertEqual(sum(map(sum, tells)), sum(times * len(view) for view, times in heap))
        for state in range(len(chain[1])):
            lasts = sum(times * ahead_worths(chain, view)[-1][state] / sum(ahead_worths(chain, view)[-1])
                        for view, times in heap if view)
            self.assertEqual(sum(steps[state]), sum(tells[state]) - lasts)


class Counts(Learning):
    def test_examples(self):
        nought = ((0, 1), (0, 1))
        told = (((4, 5), (6, 5)), (nought, nought), (((4, 5), (0, 1)), ((1, 5), (1, 1))))
        self.tells(told, counts, chain=WORN, heap=TWO)
        told = (((2, 3), (1, 3)), (((0, 1), (2, 3)), ((0, 1), (1, 3))), (((2, 3), (0, 1)), ((1, 3), (1, 1))))
        self.tells(told, counts, chain=WORN, heap=(("ab", 1),))
        told = (((1, 2), (1, 2)), (nought, nought), (((1, 2), (0, 1)), ((1, 8), (3, 8))))
        self.tells(told, counts, chain=WORN, heap=((".", 1),))
        self.tells(("ab", (2, 3), ((1, 1), (0, 1)), ((1, 0), (1, 5))), learned, chain=WORN, heap=TWO)
        self.tells(False, rests, chain=WORN, heap=TWO)
        self.tells(True, rests, chain=learned(WORN, TWO), heap=TWO)
        self.assertEqual(heap_chance(learned(WORN, TWO), TWO), (1, 4))
        made = ("ab", (2, 1), ((0, 1), (0, 1)), ((1, 0), (1, 3)))
        self.tells(made, learned, chain=WORN, heap=(("ab", 1),))
        self.assertEqual([heap_chance(chain, (("ab", 1),)) for chain in (WORN, made)], [(9, 32), (9, 16)])
        self.tells(WORN, learned, chain=WORN, heap=((".", 2), ("", 5)))
        for function in (counts, learned, rests):
            self.refuses(Never(), function, chain=STILL, heap=(("b", 1),))

    def test_all_choices(self):
        source = random.Random(151)
        found = {}
        for chain in SMALL:
            for views in (1, 1, 2, 3):
                heap = some_heap(source, chain, views, 3)
                told = self.check(chain, heap, counts_by_choices)
                found[told] = found.get(told, 0) + 1
                if told is not None:
                    self.tells(counts(chain, heap), counts, chain=chain, heap=heap)
                    self.tells(learned(chain, heap), learned, chain=chain, heap=heap)
                    self.tells(told, rests, chain=chain, heap=heap)
        self.assertGreater(min(found[told] for told in (None, True, False)), 5)

    def test_gaps_and_signs_side_by_side(self):
        for chain in (WORN, FAIR, RING, TWIN, EVEN):
            for view in ("..", "a.", ".b", "a.b", ".a.", "..b."):
                self.check(chain, ((view, 3),), counts_by_choices)

    def test_twelve_views_up_to_twenty_times(self):
        source = random.Random(152)
        for chain in (WORN, FAIR, RING, TWIN, HOP, SMALL[-1], SMALL[-2]):
            sizes = ((1, 20), (2, 20), (3, 3), (1, 2), (2, 5), (1, 1), (3, 2), (2, 1), (1, 10), (2, 2), (0, 20), (2, 1))
            heap = tuple((some_view(source, chain, signs), times) for signs, times in sizes)
            while any(possible_count(chain, view) == 0 for view, _ in heap):
                heap = tuple((view[1:], times) for view, times in heap)
            self.assertIsNotNone(self.check(chain, heap, counts_by_choices))

    def test_tables(self):
        source = random.Random(153)
        for chain in MANY:
            for views, signs in ((1, 40), (4, 6)):
                heap = some_heap(source, chain, views, signs)
                while any(possible_count(chain, view) == 0 for view, _ in heap):
                    heap = tuple((view[1:], times) for view, times in heap)
                self.check(chain, heap, counts_by_tables)
                self.assertEqual(counts(multiplied(chain), heap), counts(chain, heap))
                self.assertEqual(learned(multiplied(chain), heap), learned(chain, heap))
                self.assertIs(rests(multiplied(chain), heap), rests(chain, heap))

    def test_great_weights(self):
        source = random.Random(154)
        for states in (1, 2, 3):
            chain = some_chain(source, states, 2, 400)
            sign, other = chain[0]
            heap = ((sign + ".", 2), (other, 3), ("", 1), (".." + sign, 1))
            if all(possible_count(chain, view) for view, _ in heap):
                self.check(chain, heap, counts_by_tables)

    def test_the_empty_view_adds_nothing(self):
        for chain in SMALL + [SIX]:
            self.tells(formed(chain, noughts(chain)), counts, chain=chain, heap=(("", 1),))
            self.tells(plain(chain), learned, chain=chain, heap=(("", 20), ("", 3)))
            self.tells(True, rests, chain=chain, heap=(("", 7),))
            heap = (("." + chain[0][0], 2), (".", 1))
            if possible_count(chain, heap[0][0]):
                for more in (heap + (("", 20),), (("", 1),) + heap, heap[:1] + (("", 4),) * 10 + heap[1:]):
                    self.tells(counts(chain, heap), counts, chain=chain, heap=more)
                    self.tells(learned(chain, heap), learned, chain=chain, heap=more)

    def test_views_told_together_and_apart(self):
        for one, other in (
            ((("ab", 3),), (("ab", 1), ("ab", 2))), ((("a.", 5), ("b", 2)), (("b", 1), ("a.", 4), ("b", 1), ("a.", 1))),
            (TWO, TWO[::-1]),
        ):
            for chain in (WORN, FAIR, TWIN, EVEN):
                self.assertEqual(counts(chain, one), counts(chain, other))
                self.assertEqual(learned(chain, one), learned(chain, other))


class Rests(Learning):
    def test_gaps_teach_nothing(self):
        for chain in MANY:
            for heap in ((("." * 40, 3),), (("...", 1), (".", 20), ("", 1))):
                self.tells(True, rests, chain=chain, heap=heap)
                self.tells(plain(chain), learned, chain=chain, heap=heap)

    def test_lines_without_use_stay(self):
        chain = ("ab", (4, 4, 0), ((2, 2, 0), (0, 6, 0), (5, 10, 5)), ((3, 0), (2, 6), (9, 3)))
        made = ("ab", (1, 0, 0), ((1, 0, 0), (0, 1, 0), (1, 2, 1)), ((1, 0), (1, 3), (3, 1)))
        still = ("ab", (4, 0, 0), ((2, 0, 0),) + chain[2][1:], chain[3])
        self.tells(made, learned, chain=still, heap=(("aaaa", 2), ("a", 1)))
        self.tells(True, rests, chain=still, heap=(("aaaa", 2), ("a", 1)))
        # One sign alone: no step is counted, and all lines of steps stay.
        one = learned(chain, (("b", 7),))
        self.assertEqual(one, ("ab", (0, 1, 0), ((1, 1, 0), (0, 1, 0), (1, 2, 1)), ((1, 0), (0, 1), (3, 1))))
        self.tells(one, learned, chain=chain, heap=(("b", 7),))
        for chain in SMALL:
            wide = with_idle_state(chain)
            heap = (("." + chain[0], 2),)
            if possible_count(chain, heap[0][0]):
                made = learned(wide, heap)
                self.assertEqual([made[1][-1], made[2][-1], made[3][-1]], [0, plain(wide)[2][-1], plain(wide)[3][-1]])

    def test_what_is_learnt_comes_to_rest(self):
        # One state: the shares are those of the signs seen, at once.
        for chain in (("ab", (3,), ((9,),), ((5, 7),)), ("ab", (3,), ((9,),), ((5, 0),))):
            heap = (("aab", 2), ("b", 1)) if chain[3][0][1] else (("aa", 3),)
            made = ("ab", (1,), ((1,),), ((4, 3) if chain[3][0][1] else (1, 0),))
            self.tells(made, learned, chain=chain, heap=heap)
            self.tells(chain[3][0][1] == 0, rests, chain=chain, heap=heap)
            self.tells(True, rests, chain=made, heap=heap)
            self.tells(True, rests, chain=multiplied(made), heap=heap)

    def test_noughts_stay(self):
        source = random.Random(155)
        for chain in SMALL + some_chains():
            heap = some_heap(source, chain, 3, 4)
            if all(possible_count(chain, view) for view, _ in heap):
                for old, new in zip(lines_of(chain), lines_of(learned(chain, heap))):
                    self.assertTrue(all(before or not after for before, after in zip(old, new)))

    def test_never_exactly_where_the_chance_is_nought(self):
        for chain in (STILL, HOP, RING, WORN, ONE):
            signs = chain[0]
            for heap in (((signs[-1], 1),), ((signs[0] * 2, 3), (signs[-1] * 2, 1)), ((signs[-1] * 2, 1), ("", 1)),
                         (("", 1), ("." + signs[-1] * 2 + ".", 2)), (("..", 1),)):
                never = heap_chance(chain, heap) == (0, 1)
                for function in (counts, learned, rests):
                    if never:
                        self.refuses(Never(), function, chain=chain, heap=heap)
                    else:
                        function(chain, heap)


class Led(Learning):
    def test_examples(self):
        self.tells(((15, 64), (1, 4), (1, 4)), led, chain=WORN, heap=TWO, turns=2)
        self.tells(((9, 64),), led, chain=WORN, heap=(("b", 2),), turns=0)

    def steps(self, chain, heap, turns):
        """What led has to tell: the shares, or that there are too many figures."""
        chains = [chain]
        for at in range(turns + 1):
            if max(max(line) for line in lines_of(chains[at])) >= 10 ** 400:
                return TooMany(400)
            if at < turns:
                chains.append(learned(chains[at], heap))
        return tuple(heap_chance(one, heap) for one in chains)

    def check_led(self, chain, heap, turns):
        wanted = self.steps(chain, heap, turns)
        self.tells(wanted, led, chain=chain, heap=heap, turns=turns)
        if isinstance(wanted, tuple):
            worths = list(map(ratio, wanted))
            self.assertEqual(worths, sorted(worths))
            self.assertEqual(len(worths), turns + 1)
            # From the first one on that does not grow they stay the same.
            for at in range(turns):
                if worths[at] == worths[at + 1]:
                    self.assertEqual(set(worths[at:]), {worths[at]})
        return wanted

    def test_turns(self):
        source = random.Random(156)
        told = 0
        for chain in SMALL[:14]:
            heap = some_heap(source, chain, 3, 4)
            if any(possible_count(chain, view) == 0 for view, _ in heap):
                continue
            for turns in range(5):
                told += isinstance(self.check_led(chain, heap, turns), tuple)
        self.assertGreater(told, 30)

    def test_too_many_figures_at_each_turn(self):
        found = set()
        for figures, heap in (
            (399, (("ab", 1),)), (200, (("ab", 1),)), (40, (("aba", 1),)), (20, (("ab", 2), ("b.", 1))), (8, (("ab", 2), ("bb", 1))),
            (3, (("ab", 1),)), (2, (("ab", 1),)), (2, (("ab", 2), ("b", 1))), (1, (("aab", 1),)), (1, (("ab", 1),)),
        ):
            source = random.Random(figures)
            lines = [tuple(source.randrange(10 ** (figures - 1), 10 ** figures) for _ in range(2)) for _ in range(5)]
            chain = ("ab", lines[0], tuple(lines[1:3]), tuple(lines[3:]))
            first = None
            for turns in range(5):
                told = self.steps(chain, heap, turns)
                if isinstance(told, TooMany):
                    first = turns
                    self.refuses(TooMany(400), led, chain=chain, heap=heap, turns=turns)
                    break
                self.tells(told, led, chain=chain, heap=heap, turns=turns)
            found.add(first)
        self.assertEqual(found, {1, 2, 3, 4, None})

    def test_the_given_chain(self):
        for weight, refused in ((10 ** 400 - 1, False), (10 ** 400, True), (10 ** 800, True)):
            for chain in (
                ("ab", (weight, 1), ((1, 1), (0, 1)), ((1, 1), (1, 3))), ("ab", (1, 1), ((1, 1), (0, weight)), ((1, 1), (1, 3))),
                ("ab", (1, 1), ((weight, 1), (0, 1)), ((1, 1), (1, 3))), ("ab", (1, 1), ((1, 1), (0, 1)), ((1, 1), (1, weight))),
                # As it stands: made plain it would have small weights.
                ("ab", (weight, weight), ((1, 1), (0, 1)), ((1, 1), (1, 3))),
            ):
                heap = (("..", 1),)
                if refused:
                    self.refuses(TooMany(400), led, chain=chain, heap=heap, turns=0)
                    self.refuses(TooMany(400), led, chain=chain, heap=heap, turns=3)
                else:
                    self.tells(((1, 1),), led, chain=chain, heap=heap, turns=0)
                    self.tells(((1, 1),) * 3, led, chain=chain, heap=heap, turns=2)

    def test_never_ahead_of_too_many(self):
        great = ("ab", (10 ** 400,), ((1,),), ((1, 0),))
        for turns in (0, 1, 4):
            self.refuses(Never(), led, chain=great, heap=(("b", 1),), turns=turns)
            self.refuses(Never(), led, chain=great, heap=(("a", 1), ("ab", 1)), turns=turns)
            self.refuses(TooMany(400), led, chain=great, heap=(("a", 1),), turns=turns)
            self.refuses(Never(), led, chain=STILL, heap=(("b", 1),), turns=turns)

    def test_the_last_chain(self):
        """The heap's chance by the last one is told, though nothing is learnt from it."""
        source = random.Random(157)
        chain = ("ab", some_line(source, 2, 150), ((1, 2), (2, 1)), ((3, 1), (1, 2)))
        heap = (("ab", 1), ("b", 1))
        turns = next(turns for turns in range(1, 9) if max(max(line) for line in lines_of(self.nth(chain, heap, turns))) >= 10 ** 400)
        self.assertIsInstance(self.check_led(chain, heap, turns - 1), tuple)
        self.refuses(TooMany(400), led, chain=chain, heap=heap, turns=turns)

    def nth(self, chain, heap, turns):
        for _ in range(turns):
            chain = learned(chain, heap)
        return chain


class Counted(Learning):
    def test_examples(self):
        seen = (("ab", (0, 1)), ("aa", (0, 0)), ("", ()))
        made = ("ab", (1, 0), ((1, 1), (0, 1)), ((1, 0), (0, 1)))
        self.tells(made, counted, chain=WORN, pairs=seen)
        self.tells((3, 64), pairs_chance, chain=WORN, pairs=seen)
        self.tells((1, 4), pairs_chance, chain=made, pairs=seen)

    def some_pairs(self, source, chain, many, signs):
        pairs = []
        for _ in range(many):
            row = some_view(source, chain, source.randrange(signs + 1), 0)
            pairs.append((row, tuple(source.randrange(len(chain[1])) for _ in row)))
        return tuple(pairs)

    def check_pairs(self, chain, pairs):
        lines = noughts(chain)
        worth = FRACTION(1)
        for row, course in pairs:
            take_in(chain, lines, row, course, 1)
            worth *= weighed(chain, row, course)
        made = counted(chain, pairs)
        for line, old, new in zip(lines, lines_of(chain), lines_of(made)):
            whole = sum(line) or sum(old)
            self.assertEqual([FRACTION(many, whole) for many in (line if any(line) else old)], [part(new, at) for at in range(len(new))])
        self.assertEqual(plain(made), made)
        self.assertIsNone(chain_error(made))
        self.assertEqual(pairs_chance(chain, pairs), pair(worth))
        self.assertGreaterEqual(ratio(pairs_chance(made, pairs)), worth)
        return made

    def test_counts_and_products(self):
        source = random.Random(158)
        for chain in MANY:
            for many, signs in ((1, 3), (3, 6), (12, 10), (3, 40)):
                pairs = self.some_pairs(source, chain, many, signs)
                made = self.check_pairs(chain, pairs)
                self.tells(made, counted, chain=chain, pairs=pairs)
                self.tells(pairs_chance(chain, pairs), pairs_chance, chain=chain, pairs=pairs)
                self.assertEqual(counted(multiplied(chain), pairs), made)
                self.assertEqual(pairs_chance(multiplied(chain), pairs), pairs_chance(chain, pairs))

    def test_better_than_any_chain(self):
        source = random.Random(159)
        for chain in SMALL:
            pairs = self.some_pairs(source, chain, 4, 5)
            best = ratio(pairs_chance(counted(chain, pairs), pairs))
            for _ in range(10):
                other = (chain[0],) + some_chain(source, len(chain[1]), len(chain[0]))[1:]
                self.assertLessEqual(ratio(pairs_chance(other, pairs)), best)

    def test_lines_without_use(self):
        chain = ("ab", (4, 2), ((2, 2), (3, 9)), ((5, 5), (2, 8)))
        for pairs, made in (
            ((("", ()),), ("ab", (2, 1), ((1, 1), (1, 3)), ((1, 1), (1, 4)))),
            ((("", ()), ("", ())), ("ab", (2, 1), ((1, 1), (1, 3)), ((1, 1), (1, 4)))),
            ((("a", (1,)),), ("ab", (0, 1), ((1, 1), (1, 3)), ((1, 1), (1, 0)))),
            ((("ab", (1, 0)),), ("ab", (0, 1), ((1, 1), (1, 0)), ((0, 1), (1, 0)))),
            ((("a", (1,)), ("b", (1,)), ("b", (0,))), ("ab", (1, 2), ((1, 1), (1, 3)), ((0, 1), (1, 1)))),
            ((("aaa", (0, 0, 0)), ("", ())), ("ab", (1, 0), ((1, 0), (1, 3)), ((1, 0), (1, 4)))),
        ):
            self.tells(made, counted, chain=chain, pairs=pairs)
            self.tells(made, counted, chain=multiplied(chain), pairs=pairs)
            self.check_pairs(chain, pairs)

    def test_what_the_chain_cannot_do_is_counted_too(self):
        """The course is seen: that the chain never goes it says nothing against it."""
        pairs = (("bb", (0, 0)),)
        self.tells((0, 1), pairs_chance, chain=STILL, pairs=pairs)
        self.tells(("ab", (1,), ((1,),), ((0, 1),)), counted, chain=STILL, pairs=pairs)
        self.tells((0, 1), pairs_chance, chain=WORN, pairs=(("a", (0,)), ("aa", (1, 0))))
        self.tells((1, 1), pairs_chance, chain=WORN, pairs=(("", ()),))

    def test_great_weights(self):
        source = random.Random(160)
        chain = some_chain(source, 6, 5, 400)
        pairs = self.some_pairs(source, chain, 12, 9)
        self.tells(self.check_pairs(chain, pairs), counted, chain=chain, pairs=pairs)
        chain = ("ab", (GREAT, 1), ((GREAT, GREAT), (1, GREAT)), ((GREAT, 1), (1, 0)))
        self.check_pairs(chain, (("aab" * 13, (0, 1, 0) * 13), ("b" * 40, (0,) * 40)))


class Growth(Learning):
    def test_growth(self):
        source = random.Random(161)
        told = {}
        for chain in SMALL + some_chains()[::2]:
            for views in (1, 2, 5):
                heap = some_heap(source, chain, views, 5)
                if all(possible_count(chain, view) for view, _ in heap):
                    made = learned(chain, heap)
                    before, after = ratio(heap_chance(chain, heap)), ratio(heap_chance(made, heap))
                    resting = rests(chain, heap)
                    self.assertTrue(after == before if resting else after > before)
                    told[resting] = told.get(resting, 0) + 1
        self.assertGreater(min(told[True], told[False]), 15)

    def test_rest_with_noughts_twins_and_multiplied_lines(self):
        for chain in (TWIN, with_idle_state(WORN), multiplied(WORN), EVEN):
            resting = chain
            heap = (("a", 1), ("b", 1))
            for _ in range(3):
                resting = learned(resting, heap)
            for other in (resting, multiplied(resting)):
                self.tells(True, rests, chain=other, heap=heap)
                self.assertEqual(heap_chance(learned(other, heap), heap), heap_chance(other, heap))


class WhatHolds(Calls):
    def test_the_same_calls_again(self):
        heaps = [TWO, (("ab", 3),), (("", 1), ("b.b", 2)), (("bb", 1),)]
        asked = [{"chain": chain, "heap": heap} for chain in (WORN, FAIR, HOP, STILL, TWIN) for heap in heaps]
        for function in (counts, learned, rests):
            self.tells_again(function, asked)
        self.tells_again(led, [dict(given, turns=turns) for given in asked for turns in (0, 2)])
        asked = [{"chain": chain, "pairs": pairs} for chain in (WORN, FAIR, TWIN) for pairs in (
            (("ab", (0, 1)),), (("b", (1,)), ("", ())), (("aab", (0, 0, 0)), ("ab", (1, 0))))]
        self.tells_again(counted, asked)
        self.tells_again(pairs_chance, asked)
