import itertools
import random

from helpers import NOT_STRINGS, Calls
from samples import rows_to, some_machine, walked

from veiledchains.errors import TooMany, Unfit
from veiledchains.machines import (
    alike_machines, both, either, least_machine, machine_error, taken, turned, word_machine,
)

EVEN = ("ab", 0, ((0, 1), (1, 0)), (0,))
ALL, NONE = ("ab", 0, ((0, 0),), (0,)), ("ab", 0, ((0, 0),), ())
AB = ("ab", 0, ((1, 0), (1, 2), (2, 2)), (2,))
BIG = ("abc", 3, tuple(((at + 1) % 8, at, 7 - at) for at in range(8)), (1, 4, 7))


def ring(stands, ends, signs="a"):
    return (signs, 0, tuple(((at + 1) % stands,) * len(signs) for at in range(stands)), ends)


def some_machines(source, many, signs="ab", most=8):
    return [some_machine(source, signs, source.randrange(1, most + 1)) for _ in range(many)]


def least_by_rows(machine):
    """The least machine, by what is taken behind the rows that lead to each stand."""
    signs, begin, steps, ends = machine
    marks = {stand: stand in ends for stand in range(len(steps))}
    for _ in steps:
        # What is taken by the rows of one sign more; each mark gets a number.
        longer = {at: (at in ends,) + tuple(marks[to] for to in steps[at]) for at in marks}
        numbers = {mark: number for number, mark in enumerate(sorted(set(longer.values())))}
        marks = {at: numbers[mark] for at, mark in longer.items()}
    least = {marks[begin]: (0, begin)}
    lines = {}
    rows = [("", begin)]
    for _, stand in rows:
        line = []
        for to in steps[stand]:
            if marks[to] not in least:
                least[marks[to]] = (len(least), to)
                rows.append(("", to))
            line.append(least[marks[to]][0])
        lines[least[marks[stand]][0]] = tuple(line)
    taken_ones = tuple(number for number, stand in least.values() if stand in ends)
    return (signs, 0, tuple(lines[number] for number in range(len(least))), taken_ones)


def pairs_machine(one, other, takes):
    """Both, side by side, without a bound on the stands."""
    pairs = list(itertools.product(range(len(one[2])), range(len(other[2]))))
    numbers = {pair: number for number, pair in enumerate(pairs)}
    steps = tuple(
        tuple(numbers[to] for to in zip(one[2][stand], other[2][beside])) for stand, beside in pairs)
    ends = tuple(numbers[pair] for pair in pairs if takes(pair[0] in one[3], pair[1] in other[3]))
    return (one[0], numbers[one[1], other[1]], steps, ends)


class Errors(Calls):
    def test_examples(self):
        for value, wanted in [
            (EVEN, None), (EVEN[:3], "form"), (("ba",) + EVEN[1:], "signs"), (EVEN[:2] + ((), ()), "steps"),
            (EVEN[:2] + (((0, 1), (1, 2)), (0,)), ("steps", 1)), (EVEN[:2] + (((0,), (1, 0)), (0,)), ("steps", 0)),
            (("ab", 2) + EVEN[2:], "begin"), (("ab", True) + EVEN[2:], "begin"), (EVEN[:3] + ((1, 0),), "ends"),
            (EVEN[:3] + ((0, 0),), "ends"), (EVEN[:3] + ([0],), "ends"), (EVEN[:3] + ((),), None),
        ]:
            self.tells(wanted, machine_error, value=value)

    def test_machines(self):
        source = random.Random(61)
        for signs in ("a", "z", "ab", "xyz", "abcde", "aeiou"):
            for machine in some_machines(source, 20, signs):
                self.tells(None, machine_error, value=machine)
        self.tells(None, machine_error, value=BIG)

    def test_form(self):
        for value in NOT_STRINGS + [
            "", "abcd", "ab", list(EVEN), EVEN[:3], EVEN + (None,), EVEN * 2, (EVEN,), ("ba", 9, (), ()) + (0,),
            {0: 1, 1: 2, 2: 3, 3: 4},
        ]:
            self.tells("form", machine_error, value=value)

    def test_signs(self):
        for signs in NOT_STRINGS + ["", "ba", "aa", "a1", "A", "aB", " ", ".", "a.", "abcdef", ("a", "b"), "\u00e9", "ab\n"]:
            self.tells("signs", machine_error, value=(signs,) + EVEN[1:])
            # Ahead of all that is wrong behind it.
            self.tells("signs", machine_error, value=(signs, None, None, None))

    def test_steps(self):
        for steps in NOT_STRINGS + ["", "ab", [], list(EVEN[2]), EVEN[2][:0], ((0, 0),) * 9, ((9, 9),) * 10, ([],) * 9]:
            if steps == ("1",) or steps == ("1", "2") or steps == ((), [{}]):
                continue
            self.tells("steps", machine_error, value=("ab", 0, steps, ()))
            self.tells("steps", machine_error, value=("ab", None, steps, None))
        self.tells(("steps", 0), machine_error, value=("ab", 0, ("1",), ()))
        for many in range(1, 9):
            self.tells(None, machine_error, value=("ab", many - 1, ((0, many - 1),) * many, tuple(range(many))))

    def test_the_first_bad_item_of_steps(self):
        bad = [
            (0,), (0, 0, 0), (), [0, 0], [], "00", "", None, 0, True, (0, -1), (-1, 0), (0, 8), (8, 0), (0, 10 ** 399),
            (0, True), (False, 0), (0, "0"), (0, None), (0, (0,)), ({}, 0), {0: 0, 1: 0}, (0, Unfit()), (0, [0]),
        ]
        for item in bad:
            for place in range(8):
                steps = ((0, 7),) * place + (item,) + ((7, 0),) * (7 - place)
                self.tells(("steps", place), machine_error, value=("ab", 7, steps, (0, 7)))
                later = steps[:place + 1] + (None,) * (7 - place)
                self.tells(("steps", place), machine_error, value=("ab", None, later, None))
        for many in range(1, 9):
            self.tells(("steps", many - 1), machine_error, value=("z", 0, ((0,),) * (many - 1) + ((many,),), ()))

    def test_begin(self):
        for begin in NOT_STRINGS + ["", "0", [0], (0,), 2, -1, 8, 10 ** 399, -(10 ** 399)]:
            if type(begin) is int and begin in (0, 1):
                continue
            self.tells("begin", machine_error, value=("ab", begin) + EVEN[2:])
            self.tells("begin", machine_error, value=("ab", begin, EVEN[2], None))

    def test_ends(self):
        for ends in NOT_STRINGS + [
            "", "0", [0], [], (0, 0), (1, 0), (1, 1), (2,), (0, 2), (0, 1, 2), (-1,), (-1, 0), (True,), (False,), (0, True),
            ("0",), (None,), ((0,),), ([],), (0, 1, 0), {0: 1}, (10 ** 399,), (Unfit(),),
        ]:
            if ends == ():
                continue
            self.tells("ends", machine_error, value=EVEN[:3] + (ends,))
        for ends in ((), (0,), (1,), (0, 1)):
            self.tells(None, machine_error, value=EVEN[:3] + (ends,))
        self.tells(None, machine_error, value=BIG[:3] + ((0, 2, 3, 7),))
        self.tells("ends", machine_error, value=BIG[:3] + ((0, 3, 2, 7),))
        self.tells("ends", machine_error, value=BIG[:3] + ((0, 2, 7, 8),))


class Taken(Calls):
    def test_examples(self):
        for row, wanted in (("", True), ("a", True), ("ab", False), ("abb", True), ("bab", True)):
            self.tells(wanted, taken, machine=EVEN, row=row)

    def test_all_rows(self):
        source = random.Random(62)
        for signs in ("a", "ab", "abc", "abcde"):
            for machine in some_machines(source, 8, signs):
                for row in rows_to(signs, 3):
                    self.tells(walked(machine, row), taken, machine=machine, row=row)

    def test_long_rows(self):
        source = random.Random(63)
        for machine in some_machines(source, 10, "abc") + [BIG]:
            for length in range(42):
                row = "".join(source.choice("abc") for _ in range(length))
                self.tells(walked(machine, row), taken, machine=machine, row=row)
        for length in range(42):
            self.tells(length % 8 in (3, 5), taken, machine=ring(8, (3, 5)), row="a" * length)


class Least(Calls):
    def test_examples(self):
        self.tells(EVEN, least_machine, machine=("ab", 1, ((0, 1), (1, 0)), (1,)))
        self.tells(ALL, least_machine, machine=("ab", 0, ((1, 2), (2, 1), (1, 2)), (0, 1, 2)))

    def check(self, told, machine):
        self.tells(told, least_machine, machine=machine)
        self.assertEqual(told[1], 0)
        self.assertLessEqual(len(told[2]), len(machine[2]))
        self.tells(told, least_machine, machine=told)
        self.tells(None, machine_error, value=told)

    def test_all_machines_of_few_stands(self):
        for stands in (1, 2, 3):
            lines = list(itertools.product(range(stands), repeat=2))
            for steps in itertools.product(lines, repeat=stands):
                for many in range(stands + 1):
                    for ends in itertools.combinations(range(stands), many):
                        machine = ("ab", stands - 1, steps, ends)
                        self.assertEqual(least_machine(machine), least_by_rows(machine))

    def test_some_machines(self):
        source = random.Random(64)
        for signs, many in (("a", 60), ("ab", 120), ("abc", 60), ("abcde", 20)):
            for machine in some_machines(source, many, signs):
                self.check(least_by_rows(machine), machine)

    def test_the_same_rows_and_no_more_stands(self):
        source = random.Random(65)
        for machine in some_machines(source, 60, "ab", 5):
            least = least_machine(machine)
            rows = list(rows_to("ab", 5))
            for row in rows:
                self.assertEqual(walked(least, row), walked(machine, row))
            # As many lots of rows as stands, and the least row of each lot leads to its stand.
            tails = list(rows_to("ab", 4))
            lots = {}
            for row in rows:
                lots.setdefault(tuple(walked(machine, row + tail) for tail in tails), row)
            self.assertEqual(len(lots), len(least[2]))
            for number, row in enumerate(lots.values()):
                self.assertEqual(stand_behind(least, row), number)

    def test_stands_called_otherwise(self):
        source = random.Random(66)
        for machine in some_machines(source, 40) + [BIG]:
            signs, begin, steps, ends = machine
            names = list(range(len(steps)))
            source.shuffle(names)
            back = {name: at for at, name in enumerate(names)}
            other = (
                signs, names[begin], tuple(tuple(names[to] for to in steps[back[at]]) for at in range(len(steps))),
                tuple(sorted(names[end] for end in ends)))
            self.check(least_machine(machine), other)

    def test_stands_that_nobody_comes_to(self):
        aside = ("ab", 0, ((0, 1), (1, 0), (0, 2), (2, 3)), (0, 3))
        self.check(EVEN, aside)
        self.check(NONE, ("ab", 0, ((0, 0), (1, 0)), (1,)))
        self.check(ALL, ("ab", 1, ((0, 0), (1, 1)), (1,)))
        self.check(NONE, ("ab", 3, ((0, 1), (1, 2), (2, 3), (3, 0)), ()))
        self.check(ALL, ("ab", 3, ((0, 1), (1, 2), (2, 3), (3, 0)), (0, 1, 2, 3)))

    def test_eight_stands(self):
        self.check(ring(8, (6,)), ring(8, (6,)))
        self.check(ring(4, (1,)), ring(8, (1, 5)))
        self.check(ring(1, (0,)), ring(8, tuple(range(8))))
        # Two stands that are parted by rows of seven signs alone.
        late = ("a", 0, tuple((min(at + 1, 7),) for at in range(8)), (7,))
        self.check(late, late)
        self.check(least_by_rows(BIG), BIG)


def stand_behind(machine, row):
    stand = machine[1]
    for sign in row:
        stand = machine[2][stand][machine[0].index(sign)]
    return stand


class Made(Calls):
    def test_examples(self):
        self.tells(AB, word_machine, signs="ab", word="ab")
        self.tells(("ab", 0, ((0, 1), (1, 0)), (1,)), turned, machine=EVEN)
        self.tells(("ab", 0, ((1, 2), (1, 3), (3, 0), (3, 4), (4, 3)), (4,)), both, one=EVEN, other=AB)
        self.tells(ALL, either, one=EVEN, other=turned(EVEN))
        self.tells(NONE, both, one=EVEN, other=turned(EVEN))
        self.refuses(Unfit(), both, one=EVEN, other=word_machine("abc", "c"))
        self.refuses(TooMany(8), both, one=word_machine("ab", "aaaa"), other=word_machine("ab", "bbbb"))

    def test_turned(self):
        source = random.Random(67)
        for machine in some_machines(source, 80) + [EVEN, ALL, NONE, AB]:
            told = turned(machine)
            for row in rows_to("ab", 5):
                self.assertNotEqual(walked(told, row), walked(machine, row))
            self.tells(told, least_machine, machine=told)
            self.tells(told, turned, machine=machine)
            self.tells(least_machine(machine), turned, machine=told)
        self.tells(NONE, turned, machine=ALL)
        self.tells(ALL, turned, machine=NONE)

    def test_both_and_either(self):
        source = random.Random(68)
        wide = 0
        for signs in ("a", "ab", "abc"):
            for one, other in zip(some_machines(source, 70, signs), some_machines(source, 70, signs, 5)):
                for function, takes in ((both, min), (either, max)):
                    wanted = least_by_rows(pairs_machine(one, other, takes))
                    if len(wanted[2]) > 8:
                        wide += 1
                        self.refuses(TooMany(8), function, one=one, other=other)
                        self.refuses(TooMany(8), function, one=other, other=one)
                        continue
                    self.tells(wanted, function, one=one, other=other)
                    self.tells(wanted, function, one=other, other=one)
                    for row in rows_to(signs, 3):
                        self.assertEqual(walked(wanted, row), takes(walked(one, row), walked(other, row)))
        self.assertGreater(wide, 9)

    def test_just_eight_and_nine_stands(self):
        # Rings of so many stands without a common divisor have as many together as their product is.
        self.tells(ring(8, (0,)), both, one=ring(8, (0,)), other=ring(4, (0,)))
        self.tells(ring(6, (0,)), both, one=ring(2, (0,)), other=ring(3, (0,)))
        self.refuses(TooMany(8), both, one=ring(2, (0,)), other=ring(5, (0,)))
        # Rows of at least six signs, odd in number, have eight stands; of at least seven, even in number, nine.
        self.tells(8, lambda one, other: len(both(one, other)[2]), one=at_least(6), other=ring(2, (1,)))
        self.refuses(TooMany(8), both, one=at_least(7), other=ring(2, (0,)))
        self.refuses(TooMany(8), either, one=turned(at_least(7)), other=ring(2, (1,)))

    def test_unfit_ahead_of_too_many(self):
        one, other = word_machine("ab", "aaaa"), word_machine("bc", "bbbb")
        for first, second in ((one, other), (other, one), (EVEN, ("a",) + ring(1, ())[1:]), (ring(8, (1,)), BIG)):
            for function in (both, either, alike_machines):
                self.refuses(Unfit(), function, one=first, other=second)

    def test_words(self):
        for signs in ("a", "ab", "abc", "abcde", "xyz"):
            words = list(rows_to(signs, 3))[1:]
            if len(signs) < 4:
                words += [row for row in rows_to(signs, 6) if len(row) == 6][::17]
            for word in words:
                told = word_machine(signs, word)
                self.assertEqual(len(told[2]), len(word) + 1)
                for row in rows_to(signs, 4 if len(signs) < 4 else 3):
                    self.assertEqual(walked(told, row + word[:3]), word in row + word[:3])
                self.assertEqual(least_by_rows(told), told)

    def test_words_that_overlap_themselves(self):
        for word in ("aaaa", "abab", "aabaab", "aaaaaa", "ababab", "abaaba", "aabaaa", "abbabb", "b", "ba", "bbabba"):
            told = word_machine("ab", word)
            for row in rows_to("ab", 10):
                self.assertEqual(walked(told, row), word in row)
            self.tells(least_by_rows(told), word_machine, signs="ab", word=word)
        self.tells(("a", 0, ((1,), (2,), (2,)), (2,)), word_machine, signs="a", word="aa")
        self.tells(("abc", 0, ((0, 0, 1), (1, 1, 1)), (1,)), word_machine, signs="abc", word="c")


def at_least(many):
    """Takes the rows of a's of at least so many signs."""
    return ("a", 0, tuple((min(at + 1, many),) for at in range(many + 1)), (many,))


class Alike(Calls):
    def test_examples(self):
        self.tells(None, alike_machines, one=EVEN, other=("ab", 1, ((0, 1), (1, 0)), (1,)))
        self.tells("", alike_machines, one=EVEN, other=turned(EVEN))
        self.tells("b", alike_machines, one=AB, other=word_machine("ab", "b"))
        self.tells("aab", alike_machines, one=word_machine("ab", "aab"), other=word_machine("ab", "aaab"))
        self.tells("", alike_machines, one=EVEN, other=word_machine("ab", "a"))

    def test_all_rows(self):
        source = random.Random(69)
        found = {}
        for signs, many, most in (("a", 100, 6), ("ab", 150, 4), ("abc", 60, 3)):
            for one, other in zip(some_machines(source, many, signs, most), some_machines(source, many, signs, most)):
                other = other[:3] + (other[3] if source.randrange(2) else one[3],)
                other = other if machine_error(other) is None else one
                longest = len(one[2]) + len(other[2]) - 1
                parting = [row for row in rows_to(signs, min(longest, 7)) if walked(one, row) != walked(other, row)]
                wanted = parting[0] if parting else None
                self.tells(wanted, alike_machines, one=one, other=other)
                self.tells(wanted, alike_machines, one=other, other=one)
                self.assertEqual(wanted is None, least_machine(one) == least_machine(other))
                found[wanted] = True
        self.assertGreater(len(found), 6)

    def test_rings_that_part_late(self):
        for stands, other in ((7, 8), (8, 7), (5, 8), (6, 7), (1, 8), (3, 3)):
            end = min(stands, other) - 1
            one, two = ring(stands, (end,)), ring(other, (end,))
            parting = [at for at in range(99) if (at % stands == end) != (at % other == end)]
            self.tells("a" * parting[0] if parting else None, alike_machines, one=one, other=two)
        self.tells("a" * 13, alike_machines, one=ring(7, (6,)), other=ring(8, (6,)))
        self.tells("aaaaaaa", alike_machines, one=ring(8, (7,)), other=ring(1, ()))
        self.tells(None, alike_machines, one=ring(8, (1, 5)), other=ring(4, (1,)))

    def test_the_same_calls_again(self):
        source = random.Random(70)
        machines = some_machines(source, 4) + [EVEN, AB, ALL]
        for function in (least_machine, turned):
            self.tells_again(function, [{"machine": machine} for machine in machines])
        for function in (both, either, alike_machines):
            self.tells_again(function, [{"one": one, "other": other} for one in machines for other in machines])
        self.tells_again(taken, [{"machine": one, "row": row} for one in machines for row in ("", "ab", "bba")])
        self.tells_again(word_machine, [{"signs": "ab", "word": word} for word in ("a", "ba", "abab")])
        self.tells_again(machine_error, [{"value": value} for value in machines + [None, EVEN[:3]]])

    def test_beyond_the_limits(self):
        wide = ring(12, (3, 7, 11), "abcdef")
        self.tells(("abcdef", 0, ((1,) * 6, (2,) * 6, (3,) * 6, (0,) * 6), (3,)), least_machine, machine=wide)
        self.tells("abcabca" in "abcabcab", taken, machine=word_machine("abc", "abcabca"), row="abcabcab" * 6)
