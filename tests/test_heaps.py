import fractions
import itertools
import random

from helpers import VALUES, Calls
from samples import (
    FAIR, HOP, ONE, RING, SIX, STILL, TWIN, TWO, WORN, multiplied, pair, parted, short_views, small_chains, some_chain,
    some_chains, some_heap, summed, with_idle_state,
)

from veiledchains.chains import plain
from veiledchains.errors import Unfit
from veiledchains.heaps import heap_chance, heap_error

SMALL = small_chains()


class HeapErrors(Calls):
    def test_examples(self):
        for value, wanted in (
            (TWO, None), ((("ab", 2), ("", 20), (".", 1)), None), ((), "form"), ([("a", 1)], "form"),
            ((("a", 1), ("a",)), (1, "pair")), ((("c", 1),), (0, "view")), ((("a", True),), (0, "times")),
            ((("a" * 7, 20),), "total"),
        ):
            self.tells(wanted, heap_error, chain=WORN, value=value)

    def test_form(self):
        for value in ([], [("a", 1)], {"a": 1}, {("a", 1): None}, "", "a", "aa", None, True, 0, (), 10 ** 399, Unfit(), list(TWO)):
            self.tells("form", heap_error, chain=WORN, value=value)
        for many in (1, 2, 11, 12, 13, 14, 4000):
            self.tells(None if many <= 12 else "form", heap_error, chain=WORN, value=(("", 1),) * many)
        # Too many items are told ahead of what is wrong with them.
        for item in (None, ("a",), ("c", 1), ("a", 0)):
            self.tells("form", heap_error, chain=WORN, value=(item,) * 13)
            self.tells(heap_error(WORN, (item,)), heap_error, chain=WORN, value=(item,) * 12)

    def test_values_of_all_kinds(self):
        heap = TWO * 6
        for value in VALUES:
            if not isinstance(value, tuple) or not 1 <= len(value) <= 12:
                self.tells("form", heap_error, chain=WORN, value=value)
            for place in (0, 1, 11):
                ahead, behind = heap[:place], heap[place + 1:]
                if not fits_pair(value):
                    self.tells((place, "pair"), heap_error, chain=WORN, value=ahead + (value,) + behind)
                if not fits_view(value):
                    self.tells((place, "view"), heap_error, chain=WORN, value=ahead + ((value, 1),) + behind)
                if not fits_times(value):
                    self.tells((place, "times"), heap_error, chain=WORN, value=ahead + (("a", value),) + behind)

    def test_the_first_wrong_item(self):
        wrongs = {"pair": ("a", 1, 1), "view": ("abc", 1), "times": ("ab", 21)}
        for places in itertools.combinations(range(4), 2):
            for one, other in itertools.product(wrongs, repeat=2):
                heap = [("a", 1)] * 4
                heap[places[0]], heap[places[1]] = wrongs[one], wrongs[other]
                self.tells((places[0], one), heap_error, chain=WORN, value=tuple(heap))

    def test_the_first_word(self):
        for item, word in (
            (["c", 0], "pair"), (("c", 0, 0), "pair"), (("c",), "pair"), ("a1", "pair"), (None, "pair"), (("c", 0), "view"),
            ((None, None), "view"), (("a" * 41, 21), "view"), (("a b", 1), "view"), (("A", 1), "view"), ((["a"], 1), "view"),
            ((("a",), 1), "view"), ((1, "a"), "view"), (("a", "1"), "times"), (("", 0), "times"), (("a" * 40, 21), "times"),
        ):
            self.tells((0, word), heap_error, chain=WORN, value=(item,))
            self.tells((1, word), heap_error, chain=WORN, value=(("", 20), item, ("c", 1), None))

    def test_times(self):
        for times in (0, 21, -1, 22, 10 ** 399, -(10 ** 399), True, False, "1", "", None, (), (1,), [1], {1: 1}):
            self.tells((0, "times"), heap_error, chain=WORN, value=(("", times),))
            self.tells((1, "times"), heap_error, chain=WORN, value=(("a", 1), ("b", times)))
        for times in range(1, 21):
            self.tells(None, heap_error, chain=WORN, value=(("a.b", times),))

    def test_total(self):
        for heap, wanted in (
            ((("a" * 6, 20),), None), ((("." * 6, 20),), None), ((("." * 7, 20),), "total"), ((("a." * 20, 3),), None),
            ((("a." * 20, 3), (".", 1)), "total"), ((("a." * 20, 3), ("", 20)), None), ((("a" * 40, 4),), "total"),
            ((("ab....", 19), ("aaa", 2)), None), ((("ab....", 19), ("aaa.", 2)), "total"), ((("a" * 40, 20),) * 12, "total"),
            ((("a" * 10, 1),) * 12, None), ((("a" * 10, 1),) * 11 + (("a" * 11, 1),), "total"), ((("." * 5, 2),) * 12, None),
            ((("." * 5, 2),) * 11 + ((".", 11),), "total"), ((("a" * 11, 11),), "total"), ((("a" * 12, 10),), None),
        ):
            self.tells(wanted, heap_error, chain=WORN, value=heap)
        # What is wrong with an item is told ahead of it.
        self.tells((1, "times"), heap_error, chain=WORN, value=(("a" * 40, 20), ("a", 0)))

    def test_the_signs_of_the_chain(self):
        for chain, wanted in ((ONE, (0, "view")), (SIX, None), (("ac", (1,), ((1,),), ((1, 1),)), (1, "view"))):
            self.tells(wanted, heap_error, chain=chain, value=TWO)


def fits_pair(value):
    return isinstance(value, tuple) and len(value) == 2


def fits_view(value):
    return isinstance(value, str) and len(value) <= 40 and set(value) <= set("ab.")


def fits_times(value):
    return isinstance(value, int) and not isinstance(value, bool) and 1 <= value <= 20


class HeapChance(Calls):
    def test_examples(self):
        for heap, wanted in ((TWO, (15, 64)), ((("b", 2),), (9, 64)), ((("", 3),), (1, 1)), ((("ba", 1),), (3, 32))):
            self.tells(wanted, heap_chance, chain=WORN, heap=heap)

    def worth(self, chain, heap):
        worth = fractions.Fraction(1)
        for view, times in heap:
            worth *= summed(chain, view) ** times
        return worth

    def test_products(self):
        source = random.Random(141)
        noughts = 0
        for chain in some_chains() + SMALL + [SIX]:
            for views, signs in ((1, 4), (3, 4), (12, 3), (4, 40), (12, 12)):
                heap = some_heap(source, chain, views, signs)
                self.assertIsNone(heap_error(chain, heap))
                wanted = self.worth(chain, heap)
                self.tells(pair(wanted), heap_chance, chain=chain, heap=heap)
                self.assertEqual(heap_chance(multiplied(chain), heap), pair(wanted))
                self.assertEqual(heap_chance(plain(chain), heap), pair(wanted))
                noughts += wanted == 0
        self.assertGreater(noughts, 20)

    def test_one_view_taken_its_times(self):
        for chain in SMALL:
            for view in short_views(chain, 2):
                for times in (1, 2, 20):
                    self.assertEqual(heap_chance(chain, ((view, times),)), pair(summed(chain, view) ** times))

    def test_views_that_cannot_come(self):
        for chain, heap in (
            (STILL, (("a", 3), ("b", 1))), (STILL, (("b", 1), ("a", 3))), (HOP, (("", 1), ("bb", 20))), (RING, (("b.", 1),)),
            (STILL, (("." * 39 + "b", 3),)),
        ):
            self.tells((0, 1), heap_chance, chain=chain, heap=heap)
        for chain in (WORN, FAIR, STILL, ONE):
            self.tells((1, 1), heap_chance, chain=chain, heap=(("", 20), ("....", 3)))

    def test_views_in_any_order(self):
        heap = (("ab", 2), ("b.", 3), ("", 4), ("a", 1))
        for order in itertools.permutations(heap):
            self.assertEqual(heap_chance(TWIN, order), heap_chance(TWIN, heap))
        self.assertEqual(heap_chance(TWIN, (("ab", 1), ("ab", 1))), heap_chance(TWIN, (("ab", 2),)))

    def test_twins_and_states_that_never_come(self):
        source = random.Random(143)
        for chain in SMALL:
            heap = some_heap(source, chain, 4, 5)
            for other in (parted(chain, 0), parted(chain, len(chain[1]) - 1), with_idle_state(chain), multiplied(chain)):
                self.tells(heap_chance(chain, heap), heap_chance, chain=other, heap=heap)

    def test_great_weights(self):
        chain = some_chain(random.Random(142), 3, 2, 400)
        sign, other = chain[0]
        heap = ((sign + other, 2), (".", 20), (other, 3), ("", 1))
        self.tells(pair(self.worth(chain, heap)), heap_chance, chain=chain, heap=heap)

    def test_the_same_calls_again(self):
        heaps = [TWO, (("ab", 3),), (("", 1), ("b.b", 2)), (("bb", 1),)]
        asked = [{"chain": chain, "heap": heap} for chain in (WORN, FAIR, HOP, STILL, TWIN) for heap in heaps]
        self.tells_again(heap_chance, asked)
        self.tells_again(heap_error, [{"chain": one["chain"], "value": one["heap"]} for one in asked])
