import fractions
import itertools
import random

from helpers import NOT_STRINGS, Calls
from samples import (
    EVEN, FAIR, HOP, ONE, RING, SIX, STILL, TWIN, WORN, moved, multiplied, pair, part, parted, ratio, rows_to,
    small_chains, some_chain, some_chains, some_view, summed, with_idle_state,
)

from veiledchains.alike import account, account_error, alike, alike_by, kept_words, onward
from veiledchains.chains import plain
from veiledchains.courses import chance
from veiledchains.errors import Unfit

FLAT = ("ab", (1,), ((1,),), ((5, 3),))
OTHER = ("ac",) + WORN[1:]
SMALL = small_chains()
MANY = some_chains() + SMALL + [SIX]
FRACTION = fractions.Fraction


def onward_worths(chain, row):
    """By state: the share of row and of going on to this state, as Fractions."""
    signs, start, steps, tells = chain
    states = range(len(start))
    worths = [part(start, state) for state in states]
    for sign in row:
        told = [worths[state] * part(tells[state], signs.index(sign)) for state in states]
        worths = [sum(told[one] * part(steps[one], other) for one in states) for other in states]
    return worths


def double_worths(one, other, row):
    return onward_worths(one, row) + onward_worths(other, row)


def rank(lines):
    """How many of these lines are no sums of multiples of others."""
    rows = [list(line) for line in lines]
    many = 0
    for column in range(len(rows[0]) if rows else 0):
        lead = next((at for at in range(many, len(rows)) if rows[at][column]), None)
        if lead is None:
            continue
        rows[many], rows[lead] = rows[lead], rows[many]
        for at in range(many + 1, len(rows)):
            factor = rows[at][column] / rows[many][column]
            rows[at] = [here - factor * there for here, there in zip(rows[at], rows[many])]
        many += 1
    return many


def kept_by_rank(one, other):
    words, at = [""], 0
    while at < len(words):
        for sign in one[0]:
            row = words[at] + sign
            if rank([double_worths(one, other, word) for word in words + [row]]) > len(words):
                words.append(row)
        at += 1
    return tuple(words)


def parting(one, other):
    """The first row, shorter ones first, of fewer signs than both have states, whose chances are unlike."""
    for row in rows_to(one[0], len(one[1]) + len(other[1]) - 1):
        if summed(one, row) != summed(other, row):
            return row
    return None


def late(states, ends):
    """A chain that goes through its states one by one, telling a's, then b or a for ever, by ends."""
    steps = tuple(tuple(int(to == min(at + 1, states - 1)) for to in range(states)) for at in range(states))
    return ("ab", (1,) + (0,) * (states - 1), steps, ((1, 0),) * (states - 1) + (ends,))


def pairs_of_chains(seed):
    source = random.Random(seed)
    chains = [chain for chain in SMALL + some_chains() if len(chain[1]) <= 4]
    for chain in chains:
        fit = [other for other in chains if other[0] == chain[0]]
        yield chain, source.choice(fit)
        yield chain, (chain[0],) + some_chain(source, source.randrange(1, 4), len(chain[0]))[1:]


def relatives(source, chain):
    """Chains of at most six states that tell the same rows as this one."""
    states = list(range(len(chain[1])))
    source.shuffle(states)
    yield from (chain, multiplied(chain), plain(chain), moved(chain, states))
    if len(states) < 6:
        yield from (parted(chain, source.choice(states)), with_idle_state(chain))


class Onward(Calls):
    def test_examples(self):
        for chain, row, wanted in [
            (WORN, "", ((1, 2), (1, 2))), (WORN, "a", ((1, 4), (3, 8))), (WORN, "b", ((0, 1), (3, 8))),
            (WORN, "aa", ((1, 8), (7, 32))), (FLAT, "ab", ((15, 64),)),
        ]:
            self.tells(wanted, onward, chain=chain, row=row)

    def test_sums_over_courses(self):
        for chain in SMALL:
            for row in rows_to(chain[0], 3):
                # The chances of the row with a gap behind it, by the state at the gap.
                marked = []
                for state in range(len(chain[1])):
                    told = ((0, 1),) * len(chain[1])
                    told = told[:state] + ((1, 0),) + told[state + 1:]
                    marked.append(self.ended(chain, row, told))
                self.assertEqual(onward(chain, row), tuple(map(pair, marked)))

    def ended(self, chain, row, last):
        """Over all courses of row and one more state: those whose last state is marked in last."""
        signs, start, steps, tells = chain
        total = FRACTION(0)
        for course in itertools.product(range(len(start)), repeat=len(row) + 1):
            worth = part(start, course[0]) * last[course[-1]][0]
            for place, sign in enumerate(row):
                worth *= part(tells[course[place]], signs.index(sign)) * part(steps[course[place]], course[place + 1])
            total += worth
        return total

    def test_all_chains(self):
        source = random.Random(101)
        for chain in MANY + some_chains(400)[::6]:
            for length in (0, 1, 2) if max(chain[1]) > 1000 else (0, 1, 5, 40):
                row = some_view(source, chain, length, 0)
                wanted = onward_worths(chain, row)
                self.tells(tuple(map(pair, wanted)), onward, chain=chain, row=row)
                self.assertEqual(sum(wanted), summed(chain, row))
                self.tells(tuple(map(pair, wanted)), onward, chain=multiplied(chain), row=row)


class Alike(Calls):
    def test_examples(self):
        self.tells("aa", alike, one=WORN, other=FLAT)
        self.tells(None, alike, one=WORN, other=WORN)
        self.tells(None, alike, one=WORN, other=TWIN)
        self.tells(None, alike, one=FLAT, other=("ab", (2,), ((3,),), ((10, 6),)))
        self.refuses(Unfit(), alike, one=WORN, other=OTHER)

    def test_all_rows(self):
        found = {}
        for one, other in pairs_of_chains(102):
            if (len(one[1]) + len(other[1])) ** len(one[0]) < 600:
                wanted = parting(one, other)
                self.tells(wanted, alike, one=one, other=other)
                self.tells(wanted, alike, one=other, other=one)
                found[None if wanted is None else len(wanted)] = True
        self.assertTrue({None, 1, 2} <= set(found))

    def test_chains_that_tell_the_same(self):
        source = random.Random(103)
        for chain in MANY:
            for one, other in itertools.combinations(list(relatives(source, chain)), 2):
                self.assertIsNone(alike(one, other))
                self.assertIsNone(alike(other, one))
            for other in relatives(source, chain):
                self.tells(None, alike, one=chain, other=other)

    def test_a_little_otherwise(self):
        """One weight of many more: told apart by a row, the same from both sides."""
        source = random.Random(104)
        for chain in SMALL + some_chains()[::3]:
            if len(chain[0]) == 1:
                continue
            signs, start, steps, tells = chain
            line = tells[0]
            near = tuple(10 ** 30 * weight + (at == 0) for at, weight in enumerate(line))
            other = (signs, start, steps, (near,) + tells[1:])
            told = alike(chain, other)
            self.tells(told, alike, one=other, other=chain)
            if told is not None:
                self.assertNotEqual(summed(chain, told), summed(other, told))
            rows = [row for row in rows_to(signs, 3) if summed(chain, row) != summed(other, row)]
            if rows:
                self.assertEqual(told, rows[0])
            source.random()

    def test_parting_late(self):
        for states in range(1, 7):
            for others in range(states, 7):
                one, other = late(states, (1, 1)), late(others, (1, 1))
                wanted = None if states == others else "a" * states
                self.tells(wanted, alike, one=one, other=other)
                self.tells(wanted, alike, one=other, other=one)
        # Rings, in each of which the last state tells b, and that part when the lesser one tells it again.
        for states, others, wanted in ((5, 6, "aaaabaaaaa"), (4, 5, "aaabaaaa"), (2, 3, "abaa"), (6, 6, None)):
            for one, other in ((states, others), (others, states)):
                self.tells(wanted, alike, one=ring_with(states, one), other=ring_with(states, other))

    def test_eleven_signs(self):
        """Six states each, and the first row at which they part has eleven signs."""
        one, other = latest((1, 0, 0, 0, 1, 1)), latest((2, 0, 0, 0, 3, 1))
        self.tells("a" * 11, alike, one=one, other=other)
        self.tells("a" * 11, alike, one=other, other=one)
        for row in rows_to("ab", 8):
            self.assertEqual(summed(one, row), summed(other, row))
        self.assertEqual(len(kept_words(one, other)), 12)

    def test_unfit_exactly_where_signs_are_unlike(self):
        for one in (WORN, FLAT, ONE, SIX, ("ac", (1,), ((1,),), ((1, 1),)), ("a", (1,), ((1,),), ((1,),))):
            for other in (WORN, TWIN, ONE, SIX, ("ac", (1,), ((1,),), ((1, 1),)), ("a", (1,), ((1,),), ((1,),))):
                for function in (alike, kept_words, account):
                    if one[0] == other[0]:
                        self.assertTrue(function(one, other) is None or function(one, other))
                    else:
                        self.refuses(Unfit(), function, one=one, other=other)
                for value in (None, "form", account(WORN, WORN), ()):
                    if one[0] != other[0]:
                        self.refuses(Unfit(), account_error, one=one, other=other, value=value)
                        self.refuses(Unfit(), alike_by, one=one, other=other, value=value)

    def test_three_chains(self):
        source = random.Random(105)
        for chain in SMALL:
            one, other, third = list(relatives(source, chain))[:3]
            self.assertEqual([alike(one, other), alike(other, third), alike(one, third)], [None] * 3)


def ring_with(told, states):
    """A ring of states that tell a's, but for one that tells b."""
    steps = tuple(tuple(int(to == (at + 1) % states) for to in range(states)) for at in range(states))
    return ("ab", (1,) + (0,) * (states - 1), steps, tuple((0, 1) if at == told - 1 else (1, 0) for at in range(states)))


def latest(line):
    """Down a stair, and from its foot up again by this line: the state 0 alone tells b, too."""
    stair = ((0, 0, 0, 0, 0, 1), line, (0, 1, 0, 0, 0, 0), (0, 0, 1, 0, 0, 0), (0, 0, 0, 1, 0, 0), (0, 0, 0, 0, 1, 0))
    return ("ab", (1, 0, 0, 0, 0, 0), stair, ((1, 1),) + ((1, 0),) * 5)


class Accounts(Calls):
    def test_examples(self):
        self.tells(("", "a", "aa"), kept_words, one=WORN, other=FLAT)
        self.tells(("", "a"), kept_words, one=WORN, other=WORN)
        self.tells(("",), kept_words, one=FLAT, other=FLAT)
        told = (("", "a"), ((((0, 1), (1, 1)), ((-3, 2), (3, 1))), (((-1, 8), (3, 4)), ((-9, 8), (9, 4)))))
        self.tells(told, account, one=WORN, other=WORN)
        self.tells((("",), ((((5, 8),), ((3, 8),)),)), account, one=FLAT, other=FLAT)

    def check(self, one, other, words, sums):
        self.assertEqual(len(sums), len(words))
        lines = [double_worths(one, other, word) for word in words]
        for word, made in zip(words, sums):
            self.assertEqual(len(made), len(one[0]))
            for sign, factors in zip(one[0], made):
                self.assertEqual(len(factors), len(words))
                for factor in factors:
                    self.assertEqual(factor, pair(ratio(factor)))
                total = [sum(ratio(factor) * line[at] for factor, line in zip(factors, lines)) for at in range(len(lines[0]))]
                self.assertEqual(total, double_worths(one, other, word + sign))

    def test_kept_words_and_accounts(self):
        for one, other in pairs_of_chains(106):
            words = kept_by_rank(one, other)
            self.tells(words, kept_words, one=one, other=other)
            told = account(one, other)
            self.assertEqual(told[0], words)
            self.check(one, other, *told)
            self.tells(told, account, one=one, other=other)
            self.assertLessEqual(len(words), len(one[1]) + len(other[1]))
            self.assertEqual(words[0], "")
            self.assertEqual(list(words), sorted(words, key=lambda word: (len(word), word)))
            self.assertEqual(alike(one, other), next(
                (word for word in words if chance(one, word) != chance(other, word)), None))

    def test_six_states_each(self):
        source = random.Random(107)
        for signs in (1, 2, 5):
            one = some_chain(source, 6, signs)
            other = (one[0],) + some_chain(source, 6, signs)[1:]
            words = kept_by_rank(one, other)
            self.tells(words, kept_words, one=one, other=other)
            self.check(one, other, *account(one, other))

    def test_great_weights(self):
        source = random.Random(108)
        for states in (1, 2):
            one = some_chain(source, states, 2, 400)
            other = (one[0],) + some_chain(source, states, 2, 400)[1:]
            words = kept_by_rank(one, other)
            self.tells(words, kept_words, one=one, other=other)
            self.check(one, other, *account(one, other))
            self.tells(None, alike, one=one, other=multiplied(one))

    def test_the_same_shares(self):
        for one, other in pairs_of_chains(109):
            for function in (alike, kept_words, account):
                self.tells(function(one, other), function, one=multiplied(one), other=plain(other))


class AccountErrors(Calls):
    def test_examples(self):
        self.tells(None, account_error, one=WORN, other=WORN, value=account(WORN, WORN))
        self.tells(None, account_error, one=WORN, other=WORN, value=account(WORN, FLAT))
        self.tells((1, "a"), account_error, one=FLAT, other=FLAT, value=account(WORN, WORN))
        self.tells((0, "a"), account_error, one=WORN, other=WORN, value=account(FLAT, FLAT))
        self.tells(True, alike_by, one=WORN, other=TWIN, value=account(WORN, TWIN))
        self.tells(False, alike_by, one=WORN, other=FLAT, value=account(WORN, FLAT))
        self.tells("form", account_error, one=WORN, other=WORN, value=(("a", ""), ()))
        self.tells("form", account_error, one=WORN, other=WORN, value=None)
        self.refuses(Unfit(), alike_by, one=WORN, other=WORN, value=(("",), ()))

    def holds(self, one, other, value):
        self.tells(None, account_error, one=one, other=other, value=value)
        self.tells(alike(one, other) is None, alike_by, one=one, other=other, value=value)

    def fails(self, wanted, one, other, value):
        self.tells(wanted, account_error, one=one, other=other, value=value)
        self.refuses(Unfit(), alike_by, one=one, other=other, value=value)

    def test_accounts(self):
        for one, other in pairs_of_chains(110):
            self.holds(one, other, account(one, other))
        source = random.Random(111)
        for chain in MANY:
            for other in list(relatives(source, chain))[1:]:
                self.holds(chain, other, account(chain, other))

    def more_words(self, one, other, words):
        """An account with these words beside the kept ones: sums of the kept ones, noughts for the others."""
        kept, _ = account(one, other)
        every = kept + tuple(word for word in words if word not in kept)
        lines = [double_worths(one, other, word) for word in kept]
        sums = []
        for word in every:
            made = []
            for sign in one[0]:
                factors = multiples(lines, double_worths(one, other, word + sign))
                made.append(tuple(map(pair, factors)) + ((0, 1),) * (len(every) - len(kept)))
            sums.append(tuple(made))
        return (every, tuple(sums))

    def test_rows_beside_the_kept_ones(self):
        for one, other in ((WORN, WORN), (WORN, FLAT), (FLAT, FLAT), (WORN, TWIN), (FAIR, RING), (HOP, EVEN)):
            for words in (("b",), ("bb", "ab"), ("a" * 40,), ("b" * 40, "ab" * 20, "ba")):
                value = self.more_words(one, other, words)
                self.holds(one, other, value)
                # Another order, the empty row ahead.
                names = list(range(len(value[0])))
                order = names[:1] + names[:0:-1]
                turned = (tuple(value[0][at] for at in order), tuple(
                    tuple(tuple(factors[to] for to in order) for factors in value[1][at]) for at in order))
                self.holds(one, other, turned)

    def test_sums_told_in_another_way(self):
        # FLAT has one state: the line of "a" is 5/8 of that of "", which may be parted as one likes.
        value = (("", "a"), ((((5, 8), (0, 1)), ((3, 8), (0, 1))), (((25, 64), (0, 1)), ((15, 64), (0, 1)))))
        self.holds(FLAT, FLAT, value)
        for more in range(-3, 4):
            first = ((pair(FRACTION(5, 8) - more * FRACTION(5, 8)), (more, 1)), ((3, 8), (0, 1)))
            self.holds(FLAT, FLAT, (value[0], (first, value[1][1])))
        wrong = (((5, 8), (1, 1)), ((3, 8), (0, 1)))
        self.fails((0, "a"), FLAT, FLAT, (value[0], (wrong, value[1][1])))

    def test_sixteen_and_seventeen_rows(self):
        rows = tuple(list(rows_to("ab", 4))[:17])
        for many in range(1, 18):
            words = rows[:many]
            sums = tuple(
                tuple((pair(summed(FLAT, word + sign)),) + ((0, 1),) * (many - 1) for sign in "ab") for word in words)
            if many <= 16:
                self.holds(FLAT, FLAT, (words, sums))
            else:
                self.fails("form", FLAT, FLAT, (words, sums))

    def test_rows_of_40_and_41_signs(self):
        for length in (39, 40, 41, 42):
            row = "ab" * 21
            words = ("", row[:length])
            sums = tuple(tuple((pair(summed(FLAT, word + sign)), (0, 1)) for sign in "ab") for word in words)
            if length <= 40:
                self.holds(FLAT, FLAT, (words, sums))
            else:
                self.fails("form", FLAT, FLAT, (words, sums))

    def test_form_of_words(self):
        sums = account(WORN, WORN)[1]
        for words in NOT_STRINGS + [
            "", "a", ["", "a"], ("", ""), ("a", ""), ("a", "b"), ("", "c"), ("", "."), ("", "a."), ("", "A"), ("", " "),
            ("", None), (None, "a"), ("", 1), ("", ("a",)), ("", ["a"]), ([], "a"), ("", {}), ("",), ("", "a", "b"), (),
            {"": 1, "a": 2}, ("", "a", "a"), ("", "a\n"), ("", "\u00e9"),
        ]:
            self.fails("form", WORN, WORN, (words, sums))
        self.fails("form", FLAT, FLAT, ((), ()))

    def test_form_of_the_pair(self):
        words, sums = account(WORN, WORN)
        for value in NOT_STRINGS + [
            "", "ab", [words, sums], (words,), (words, sums, None), (words, sums) * 2, (sums, words), words, sums, {},
        ]:
            self.fails("form", WORN, WORN, value)

    def test_form_of_sums(self):
        words, sums = account(WORN, WORN)
        for bad in NOT_STRINGS + ["", "ab", list(sums), sums[:1], sums + sums[:1], (), (sums[0], None), (None, sums[1])]:
            self.fails("form", WORN, WORN, (words, bad))
        for place in (0, 1):
            for bad in (None, (), sums[place][:1], sums[place] + sums[place][:1], list(sums[place]), "ab", 1, {0: 1, 1: 2}):
                changed = sums[:place] + (bad,) + sums[place + 1:]
                self.fails("form", WORN, WORN, (words, changed))
            for at in (0, 1):
                line = sums[place][at]
                for bad in (None, (), line[:1], line + ((0, 1),), list(line), "ab", 7, {}):
                    made = sums[place][:at] + (bad,) + sums[place][at + 1:]
                    self.fails("form", WORN, WORN, (words, sums[:place] + (made,) + sums[place + 1:]))

    def test_form_of_fractions(self):
        words, sums = account(WORN, WORN)
        bad = [
            None, 0, 1, True, "0", "1/2", (), (0,), (0, 0), (1, 0), (0, 2), (2, 4), (1, -1), (0, -1), (-1, -2), (0, 1, 1),
            [0, 1], (True, 1), (0, True), (False, 1), (1, True), ("0", 1), (0, "1"), (None, 1), ((0,), 1), {0: 1}, Unfit(),
            (10 ** 399, 10 ** 399),
        ]
        for place, at, to in itertools.product((0, 1), repeat=3):
            for item in bad:
                line = sums[place][at][:to] + (item,) + sums[place][at][to + 1:]
                made = sums[place][:at] + (line,) + sums[place][at + 1:]
                self.fails("form", WORN, WORN, (words, sums[:place] + (made,) + sums[place + 1:]))

    def test_the_first_word_and_sign_that_do_not_hold(self):
        for one, other in ((WORN, FLAT), (WORN, TWIN), (FAIR, RING), (SIX, SIX)):
            words, sums = account(one, other)
            for place in range(len(words)):
                for at, sign in enumerate(one[0]):
                    for to in (0, len(words) - 1):
                        for more in (FRACTION(1), FRACTION(-1, 10 ** 40)):
                            line = sums[place][at]
                            line = line[:to] + (pair(ratio(line[to]) + more),) + line[to + 1:]
                            made = sums[place][:at] + (line,) + sums[place][at + 1:]
                            changed = sums[:place] + (made,) + sums[place + 1:]
                            self.fails((place, sign), one, other, (words, changed))
                    # All later ones wrong, too.
                    noughts = ((7, 1),) * len(words)
                    made = sums[place][:at] + (noughts,) * (len(one[0]) - at)
                    later = ((noughts,) * len(one[0]),) * (len(words) - place - 1)
                    self.fails((place, sign), one, other, (words, sums[:place] + (made,) + later))

    def test_accounts_of_others(self):
        """Of one alone, of other alone, of neither."""
        value = account(WORN, WORN)
        self.tells((1, "a"), account_error, one=FLAT, other=WORN, value=value)
        self.tells((1, "a"), account_error, one=WORN, other=FLAT, value=value)
        self.tells(None, account_error, one=TWIN, other=WORN, value=account(WORN, TWIN))
        self.tells((0, "a"), account_error, one=FLAT, other=WORN, value=account(FLAT, FLAT))
        self.tells((0, "a"), account_error, one=WORN, other=FLAT, value=account(FLAT, FLAT))

    def test_the_same_calls_again(self):
        asked = [{"one": one, "other": other} for one in (WORN, TWIN, FLAT, FAIR) for other in (WORN, RING, FLAT, OTHER)]
        for function in (alike, kept_words, account):
            self.tells_again(function, asked)
        values = [account(WORN, WORN), account(WORN, FLAT), None]
        for function in (account_error, alike_by):
            self.tells_again(function, [dict(given, value=value) for given in asked for value in values])
        self.tells_again(onward, [{"chain": one, "row": row} for one in (WORN, TWIN, FLAT) for row in ("", "ab", "bb")])

    def test_beyond_the_limits(self):
        wide = ("abcdef", (1,) * 7, ((1,) * 7,) * 7, ((1,) * 6,) * 7)
        narrow = ("abcdef", (3,), ((1,),), ((2,) * 6,))
        self.tells(None, alike, one=wide, other=narrow)
        self.tells(((1, 7 * 6 ** 45),) * 7, onward, chain=wide, row="f" * 45)
        self.holds(STILL, STILL, account(STILL, STILL))


def multiples(lines, line):
    """Fractions by which the lines sum up to line, by elimination."""
    rows = [[kept[at] for kept in lines] + [line[at]] for at in range(len(line))]
    for column in range(len(lines)):
        lead = next(at for at in range(column, len(rows)) if rows[at][column])
        rows[column], rows[lead] = rows[lead], rows[column]
        rows[column] = [number / rows[column][column] for number in rows[column]]
        for at, row in enumerate(rows):
            if at != column:
                rows[at] = [here - row[column] * there for here, there in zip(row, rows[column])]
    assert not any(row[-1] for row in rows[len(lines):])
    return [row[-1] for row in rows[:len(lines)]]
