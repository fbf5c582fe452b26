import copy
import random

from helpers import VALUES, Calls, same, shown
from samples import (
    EVEN, FAIR, GREAT, HOP, ONE, RING, SIX, STILL, TWIN, TWO, WORN, multiplied, parted, ratio, small_chains, some_chain,
    some_chains, some_heap, some_view, with_idle_state,
)

from veiledchains.along import states_told, told_ahead
from veiledchains.best import best_course, ranked
from veiledchains.chains import chain_error, plain, start_share
from veiledchains.courses import chance, possible_count
from veiledchains.desks import Desk, desk_behind
from veiledchains.errors import BadChain, BadLog, ChainError, Never, NoRank, NothingToUndo, TooMany, Unfit
from veiledchains.heaps import heap_chance, heap_error
from veiledchains.learning import learned
from veiledchains.making import mixed
from veiledchains.views import view_error

BC = ("bc",) + WORN[1:]
NAMES = {"put": "view", "take": "chain", "learn": "heap"}
BAD_CHAINS = [
    WORN[:3], list(WORN), ("ba",) + WORN[1:], ("",) + WORN[1:], WORN[:1] + ((0, 0),) + WORN[2:], WORN[:1] + ((1, True),) + WORN[2:],
    WORN[:2] + (((1, 1),), WORN[3]), WORN[:2] + (((1, 1), (0, 0)), WORN[3]), WORN[:3] + (None,), WORN[:3] + (((1, 0), (1, 3, 0)),),
    "signs ab", None, (), ("ab", (1,) * 7, ((1,) * 7,) * 7, ((1, 1),) * 7),
]


def stand(desk):
    return (desk.chain, desk.view, desk.log, desk.version)


def behind(chain, *edits):
    """A desk on chain behind these edits, each done by its own method."""
    desk = Desk(chain)
    for word, *given in edits:
        getattr(desk, word)(*given)
    return desk


class Desks(Calls):
    """Each edit is made by place and by name, on a desk of its own."""

    def edits(self, desk, word, value):
        """The outcomes of this edit, by place and by name, each with the desk on which it was made."""
        held = copy.deepcopy(value)
        for by_name in (False, True, False):
            other = desk.copy()
            method = getattr(other, word)
            try:
                told = method(**{NAMES[word]: value}) if by_name else method(value)
            except ChainError as error:
                told = error
            if not same(held, value):
                self.fail(f"{word} changed what it was handed")
            yield told, other

    def makes(self, desk, word, value, chain, view):
        """The edit is made: the version is told, and the desk has this chain and this view."""
        before = stand(desk)
        for told, other in self.edits(desk, word, value):
            self.assertTrue(same(told, before[3] + 1), (word, shown(value), told))
            self.assertTrue(same(stand(other), (chain, view, before[2] + ((word, value),), before[3] + 1)))
            self.assertEqual(other.undo(), before[3])
            self.assertTrue(same(stand(other), before))
        self.assertTrue(same(stand(desk), before))

    def refuses_edit(self, error, desk, word, value):
        before = stand(desk)
        for told, other in self.edits(desk, word, value):
            self.assertTrue(same(told, error), (word, shown(value), told))
            self.assertTrue(same(stand(other), before))


class Made(Desks):
    def test_examples(self):
        desk = Desk(WORN)
        told = (desk.put("a"), desk.chance(), desk.states(), desk.coming(), desk.best(), desk.ranked(1))
        self.assertEqual(told, (1, (5, 8), ((4, 5), (1, 5)), ((11, 20), (9, 20)), ((0,), (1, 2)), ((1,), (1, 8))))
        told = (desk.put("."), desk.view, desk.states(), desk.undo(), desk.view)
        self.assertEqual(told, (2, "a.", ((2, 5), (3, 5)), 1, "a"))
        told = (desk.learn(TWO), desk.chain, desk.log)
        self.assertEqual(told, (2, ("ab", (2, 3), ((1, 1), (0, 1)), ((1, 0), (1, 5))), (("put", "a"), ("learn", TWO))))
        self.refuses_edit(Unfit(), desk, "put", "ac")
        self.refuses_edit(TooMany(40), desk, "put", "a" * 40)
        self.refuses_edit(Unfit(), desk, "take", BC)
        self.refuses(BadChain("form"), Desk, chain=WORN[:3])
        self.assertEqual(desk_behind(WORN, desk.log), desk)

    def test_new_desks(self):
        for chain in [WORN, multiplied(WORN), ONE, SIX, TWIN, mixed(WORN, FAIR, GREAT, GREAT - 1)] + some_chains(400)[::9]:
            for desk in (Desk(chain), Desk(chain=chain)):
                self.assertTrue(same(stand(desk), (chain, "", (), 0)))
                self.assertIs(type(desk), Desk)

    def test_bad_chains(self):
        for value in VALUES + BAD_CHAINS + [(value,) * 4 for value in VALUES[::3]]:
            error = chain_error(value)
            self.assertIsNotNone(error)
            self.refuses(BadChain(error), Desk, chain=value)
            self.refuses_edit(BadChain(error), behind(WORN, ("put", "ab")), "take", value)

    def test_desks_are_no_chains(self):
        for value in (Desk(WORN), (Desk(WORN),) * 4, BadChain("form")):
            self.assertRaises(BadChain, Desk, value)
            self.assertRaises(BadChain, Desk(WORN).take, value)
            self.assertRaises(Unfit, Desk(WORN).put, value)
            self.assertRaises(Unfit, Desk(WORN).learn, value)
            self.assertRaises(BadLog, desk_behind, WORN, (value,))

    def test_properties_can_only_be_read(self):
        desk = behind(WORN, ("put", "a"))
        for word, value in (("chain", FAIR), ("view", "b"), ("log", ()), ("version", 0)):
            with self.assertRaises(AttributeError):
                setattr(desk, word, value)
            with self.assertRaises(AttributeError):
                delattr(desk, word)
            self.assertTrue(same(stand(desk), (WORN, "a", (("put", "a"),), 1)))

    def test_what_was_told_stays_as_it_was(self):
        desk = behind(WORN, ("put", "a"))
        before = stand(desk)
        held = copy.deepcopy(before)
        desk.put("b")
        desk.learn(TWO)
        desk.forget()
        desk.take(FAIR)
        for _ in range(3):
            desk.undo()
        self.assertTrue(same(before, held))


class Equal(Desks):
    def test_chain_and_view_alone(self):
        same_ones = [
            behind(WORN, ("put", "ab")), behind(WORN, ("put", "a"), ("put", "b")), behind(FAIR, ("put", "ab"), ("take", WORN)),
            behind(WORN, ("put", "b"), ("forget",), ("put", "ab")), behind(WORN, ("put", "ab")).copy(),
        ]
        for one in same_ones:
            for other in same_ones:
                self.assertIs(one == other, True)
                self.assertIs(one != other, False)
        others = [
            Desk(WORN), behind(WORN, ("put", "a")), behind(WORN, ("put", "a.")), behind(FAIR, ("put", "ab")),
            # The same shares are not enough.
            behind(multiplied(WORN), ("put", "ab")), behind(("ab", (2, 2)) + WORN[2:], ("put", "ab")),
            WORN, (WORN, "ab"), ("put", "ab"), "ab", None, True, 0, [], {}, Desk, same_ones[0].log, Unfit(), object(),
        ]
        for one in same_ones:
            for other in others:
                self.assertIs(one == other, False)
                self.assertIs(other == one, False)
                self.assertIs(one != other, True)
                self.assertIs(other != one, True)

    def test_a_desk_with_other_fields_is_no_desk(self):
        class Alike:
            chain, view = WORN, "ab"

        desk = behind(WORN, ("put", "ab"))
        self.assertFalse(desk == Alike())
        self.assertTrue(desk != Alike())

    def test_copies(self):
        first = behind(WORN, ("put", "a"), ("learn", TWO), ("take", FAIR), ("forget",), ("put", "b"))
        before = stand(first)
        other = first.copy()
        self.assertIs(type(other), Desk)
        self.assertIsNot(other, first)
        self.assertTrue(same(stand(other), before))
        # What is done to the one is not done to the other, either way.
        other.put("a")
        other.take(TWIN)
        self.assertTrue(same(stand(first), before))
        third = other.copy()
        first.undo()
        first.undo()
        first.undo()
        self.assertEqual([other.version, third.version, first.version], [7, 7, 2])
        self.assertTrue(same(stand(other), stand(third)))
        self.assertTrue(same(stand(first), stand(behind(WORN, ("put", "a"), ("learn", TWO)))))
        # It undoes as far as the first one.
        for left in range(6, -1, -1):
            self.assertEqual(other.undo(), left)
        self.assertRaises(NothingToUndo, other.undo)
        self.assertTrue(same(stand(other), (WORN, "", (), 0)))
        self.assertEqual(third.version, 7)

    def test_copies_of_new_and_of_full_desks(self):
        self.assertTrue(same(stand(Desk(ONE).copy()), (ONE, "", (), 0)))
        full = behind(WORN, *[("forget",)] * 40).copy()
        self.assertRaises(TooMany, full.forget)
        full.undo()
        self.assertEqual(full.forget(), 40)


class Put(Desks):
    def test_views(self):
        for ahead in ("", "a", ".b", "ab" * 10):
            desk = behind(WORN, ("put", ahead)) if ahead else Desk(WORN)
            for view in ("a", "b", ".", "ab.", "a" * 20, "." * (40 - len(ahead))):
                self.makes(desk, "put", view, WORN, ahead + view)

    def test_unfit(self):
        for value in VALUES + ["", "c", "ac", "a b", "A", "a,", "ab\n", " ", "a" * 41, "c" * 41, ("a",), ["a"]]:
            for desk in (Desk(WORN), behind(WORN, ("put", "ab"))):
                self.refuses_edit(Unfit(), desk, "put", value)
        self.refuses_edit(Unfit(), Desk(STILL), "put", "")
        self.refuses_edit(Unfit(), Desk(ONE), "put", "a")
        self.makes(Desk(STILL), "put", "b", STILL, "b")

    def test_too_many_signs(self):
        for ahead in (1, 2, 20, 39, 40):
            desk = behind(WORN, ("put", "a." * 20)) if ahead == 40 else behind(WORN, ("put", "." * ahead))
            for many in (1, 2, 20, 21, 39, 40):
                if ahead + many > 40:
                    self.refuses_edit(TooMany(40), desk, "put", "b" * many)
                    # A view that is none is told ahead of it.
                    self.refuses_edit(Unfit(), desk, "put", "b" * (many - 1) + "c")
                else:
                    self.makes(desk, "put", "b" * many, WORN, desk.view + "b" * many)
            self.refuses_edit(Unfit(), desk, "put", "")
        # Room again behind forget.
        desk = behind(WORN, ("put", "a" * 40), ("forget",))
        self.makes(desk, "put", "b" * 40, WORN, "b" * 40)


class Take(Desks):
    def test_chains(self):
        for view in ("", "a", "ab.", "." * 40):
            desk = behind(WORN, ("put", view)) if view else Desk(WORN)
            for chain in (FAIR, multiplied(WORN), WORN, STILL, TWIN, SIX, ("abz", (1,), ((1,),), ((0, 0, 1),))):
                self.makes(desk, "take", chain, chain, view)
        for view in ("", "...", "." * 40):
            desk = behind(WORN, ("put", view)) if view else Desk(WORN)
            for chain in (ONE, BC, ("c", (1,), ((1,),), ((1,),))):
                self.makes(desk, "take", chain, chain, view)

    def test_unfit(self):
        for view, chain in (("a", BC), ("a", ONE), (".a", BC), ("ab", ("a", (1,), ((1,),), ((1,),))), ("bb.b" * 9 + "a", BC)):
            self.refuses_edit(Unfit(), behind(WORN, ("put", view)), "take", chain)
        # The desk's view may have no chance any more: it is a view still.
        self.makes(behind(WORN, ("put", "bb")), "take", HOP, HOP, "bb")

    def test_a_bad_chain_ahead_of_an_unfit_one(self):
        desk = behind(WORN, ("put", "a"))
        for chain in (("bc", (1, 1), WORN[2], None), ("bc", (0, 0)) + WORN[2:], ("cb",) + WORN[1:]):
            self.refuses_edit(BadChain(chain_error(chain)), desk, "take", chain)

    def test_as_it_stands(self):
        desk = Desk(WORN)
        desk.take(multiplied(WORN))
        self.assertEqual(desk.chain, multiplied(WORN))
        self.assertNotEqual(desk, Desk(WORN))
        great = mixed(FAIR, FAIR, GREAT, GREAT - 1)
        great = mixed(("ab", (GREAT, GREAT - 1)) + FAIR[2:], FAIR, GREAT - 3, GREAT)
        self.assertGreater(max(great[1]), 10 ** 401)
        self.makes(desk, "take", great, great, "")


class Learn(Desks):
    def test_heaps(self):
        source = random.Random(201)
        for chain in small_chains()[::2]:
            desk = behind(chain, ("put", "."))
            heap = some_heap(source, chain, 3, 4)
            if all(possible_count(chain, view) for view, _ in heap):
                self.makes(desk, "learn", heap, learned(chain, heap), ".")
                other = desk.copy()
                other.learn(heap)
                self.assertGreaterEqual(ratio(heap_chance(other.chain, heap)), ratio(heap_chance(chain, heap)))
            else:
                self.refuses_edit(Never(), desk, "learn", heap)

    def test_a_chain_at_rest_is_learnt_too(self):
        for chain in (WORN, multiplied(WORN)):
            self.makes(Desk(chain), "learn", (("", 3),), plain(chain), "")
            self.makes(Desk(chain), "learn", ((".", 3),), plain(chain), "")

    def test_unfit(self):
        for value in VALUES + [
            (), (("c", 1),), (("a", 0),), (("a", 21),), (("a", True),), [("a", 1)], (["a", 1],), (("a", 1),) * 13, (("a" * 7, 20),),
            (("a", 1, 1),), ("a", 1), (("a" * 41, 1),), TWO + (None,),
        ]:
            self.assertIsNotNone(heap_error(WORN, value))
            self.refuses_edit(Unfit(), behind(WORN, ("put", "a")), "learn", value)
        # Ahead of all else.
        self.refuses_edit(Unfit(), Desk(STILL), "learn", (("b", 1), ("c", 1)))

    def test_never(self):
        for chain, heap in ((STILL, (("b", 1),)), (STILL, (("a", 1), ("ab", 2))), (HOP, (("bb", 1),)), (RING, (("", 1), ("b", 1)))):
            self.refuses_edit(Never(), Desk(chain), "learn", heap)

    def test_too_many_figures(self):
        heap = (("..", 1),)
        for weight, refused in ((10 ** 400 - 1, False), (10 ** 400, True), (10 ** 900, True)):
            for chain in (
                ("ab", (weight, 1), ((1, 1), (0, 1)), ((1, 0), (1, 3))), ("ab", (1, 1), ((1, weight), (0, 1)), ((1, 0), (1, 3))),
                ("ab", (1, 1), ((1, 1), (0, 1)), ((1, 0), (1, weight))), ("ab", (weight, weight), ((1, 1), (0, 1)), ((1, 0), (1, 3))),
            ):
                if refused:
                    self.refuses_edit(TooMany(400), Desk(chain), "learn", heap)
                else:
                    self.makes(Desk(chain), "learn", heap, plain(chain), "")
        # Never is told ahead of it.
        self.refuses_edit(Never(), Desk(("ab", (10 ** 400,), ((1,),), ((1, 0),))), "learn", (("b", 1),))
        # The chain learnt has too many, the chain itself has not.
        chain = ("ab", (GREAT, 7), ((GREAT, 1), (1, 2)), ((1, GREAT), (3, 1)))
        self.assertGreater(max(learned(chain, (("ab", 1),))[1]), 10 ** 400)
        self.refuses_edit(TooMany(400), Desk(chain), "learn", (("ab", 1),))
        # What is learnt again and again gets more figures, until it is refused.
        desk = Desk(("ab", (2, 1), ((5, 2), (1, 7)), ((3, 1), (1, 2))))
        heap = (("ab", 2), ("b", 1))
        while max(learned(desk.chain, heap)[1]) < 10 ** 400:
            desk.learn(heap)
        self.assertGreater(desk.version, 1)
        self.refuses_edit(TooMany(400), desk, "learn", heap)


class Edits(Desks):
    def test_forget(self):
        for view in ("", "a", "." * 40):
            desk = behind(WORN, ("put", view)) if view else Desk(WORN)
            before = stand(desk)
            self.assertEqual(desk.forget(), before[3] + 1)
            self.assertTrue(same(stand(desk), (WORN, "", before[2] + (("forget",),), before[3] + 1)))
            self.assertEqual(desk.undo(), before[3])
            self.assertTrue(same(stand(desk), before))

    def test_forty_edits(self):
        edits = [("put", "a"), ("take", FAIR), ("learn", TWO), ("forget",), ("put", "b."), ("take", WORN)]
        desk = Desk(WORN)
        for place in range(40):
            word, *given = edits[place % 6]
            self.assertEqual(getattr(desk, word)(*given), place + 1)
        self.assertEqual(len(desk.log), 40)
        self.refuses_edit(TooMany(40), desk, "put", "a")
        self.refuses_edit(TooMany(40), desk, "take", FAIR)
        self.refuses_edit(TooMany(40), desk, "learn", (("", 1),))
        before = stand(desk)
        with self.assertRaises(TooMany) as caught:
            desk.forget()
        self.assertEqual(caught.exception.limit, 40)
        self.assertTrue(same(stand(desk), before))
        # Behind all other errors.
        self.refuses_edit(Unfit(), desk, "put", "")
        self.refuses_edit(Unfit(), desk, "put", "c")
        self.refuses_edit(BadChain("form"), desk, "take", None)
        self.refuses_edit(Unfit(), desk, "learn", None)
        # Room again behind undo.
        self.assertEqual(desk.undo(), 39)
        self.makes(desk, "put", "a", desk.chain, desk.view + "a")
        self.assertEqual(desk.forget(), 40)

    def test_the_other_limits_ahead_of_the_edits(self):
        full = behind(WORN, *[("forget",)] * 39, ("put", "a"))
        for word, value, error in (
            ("take", BC, Unfit()), ("learn", (("c", 1),), Unfit()), ("put", "x", Unfit()), ("put", "a" * 40, TooMany(40)),
            ("take", ("ba",) + WORN[1:], BadChain("signs")),
        ):
            self.refuses_edit(error, full, word, value)
        still = behind(STILL, *[("forget",)] * 40)
        self.refuses_edit(Never(), still, "learn", (("b", 1),))
        self.refuses_edit(TooMany(40), still, "learn", (("a", 1),))
        chain = ("ab", (10 ** 400, 1), ((1, 1), (0, 1)), ((1, 0), (1, 3)))
        self.refuses_edit(TooMany(400), behind(chain, *[("forget",)] * 40), "learn", (("a", 1),))

    def test_undo(self):
        edits = [("put", "a"), ("learn", TWO), ("put", "b."), ("take", FAIR), ("forget",), ("take", ONE), ("put", "z"), ("forget",)]
        stands = [stand(behind(WORN, *edits[:many])) for many in range(len(edits) + 1)]
        desk = behind(WORN, *edits)
        for many in range(len(edits) - 1, -1, -1):
            self.assertTrue(same(desk.undo(), many))
            self.assertTrue(same(stand(desk), stands[many]))
            # Another way from here, and back.
            desk.put(".")
            self.assertEqual(desk.undo(), many)
            self.assertTrue(same(stand(desk), stands[many]))
        for _ in range(2):
            self.assertRaises(NothingToUndo, desk.undo)
            self.assertTrue(same(stand(desk), (WORN, "", (), 0)))
        with self.assertRaises(NothingToUndo) as caught:
            Desk(ONE).undo()
        self.assertEqual(vars(caught.exception), {})
        self.assertIs(type(caught.exception), NothingToUndo)


class Answers(Desks):
    def outcome(self, call):
        try:
            return call()
        except ChainError as error:
            return error

    def check(self, desk):
        chain, view = desk.chain, desk.view
        before = stand(desk)

        def states():
            return states_told(chain, view)[-1] if view else tuple(start_share(chain, at) for at in range(len(chain[1])))

        for told, wanted in (
            (desk.chance, lambda: chance(chain, view)), (desk.states, states), (desk.best, lambda: best_course(chain, view)),
            (desk.coming, lambda: tuple(told_ahead(chain, view, sign) for sign in chain[0])),
        ):
            for _ in range(2):
                self.assertTrue(same(self.outcome(told), self.outcome(wanted)))
        for number in (0, 1, 2, 7, 199, 200, -1, True, False, None, "0", (), [1], 10 ** 399):
            wanted = self.outcome(lambda: ranked(chain, view, number))
            self.tells(wanted, desk.ranked, number=number)
        self.assertTrue(same(stand(desk), before))
        return chance(chain, view) != (0, 1)

    def test_beside_the_defs(self):
        source = random.Random(202)
        found = {True: 0, False: 0}
        for chain in small_chains() + some_chains()[::5] + [SIX]:
            desk = Desk(chain)
            found[self.check(desk)] += 1
            for length in (1, 2, 10, 27):
                desk.put(some_view(source, chain, length, 2))
                found[self.check(desk)] += 1
            self.assertEqual(len(desk.view), 40)
            desk.take(multiplied(chain))
            self.check(desk)
        self.assertGreater(min(found.values()), 10)

    def test_the_empty_view(self):
        for chain in (WORN, FAIR, ONE, RING, multiplied(TWIN), SIX):
            desk = Desk(chain)
            self.assertTrue(same(desk.chance(), (1, 1)))
            self.assertTrue(same(desk.states(), tuple(start_share(chain, at) for at in range(len(chain[1])))))
            self.assertTrue(same(desk.best(), ((), (1, 1))))
            self.assertTrue(same(desk.ranked(0), ((), (1, 1))))
            self.assertTrue(same(self.outcome(lambda: desk.ranked(1)), NoRank(1)))
            self.assertEqual(desk.coming(), tuple(chance(chain, sign) for sign in chain[0]))

    def test_never(self):
        for chain, view in ((STILL, "b"), (HOP, "bb"), (RING, "b..."), (STILL, "." * 39 + "b")):
            desk = behind(chain, ("put", view))
            self.assertTrue(same(desk.chance(), (0, 1)))
            for told in (desk.states, desk.coming, desk.best):
                self.assertTrue(same(self.outcome(told), Never()))
            for number in (0, 1, None, [2]):
                self.assertTrue(same(self.outcome(lambda: desk.ranked(number)), NoRank(number)))

    def test_great_weights(self):
        chain = some_chain(random.Random(203), 3, 2, 400)
        self.check(behind(chain, ("put", chain[0] + ".")))


class Behind(Desks):
    LOG = (("put", "a"), ("learn", TWO), ("put", "b."), ("take", FAIR), ("forget",), ("put", "bb"))

    def test_examples(self):
        for log, place in (
            ((("put", "a"), ("put", "x"), None), 1), ((("put", "a"), ("forget", "")), 1), ((("forget",),) * 41, 40), ([("forget",)], -1),
        ):
            self.refuses(BadLog(place), desk_behind, chain=WORN, log=log)
        self.assertEqual(desk_behind(WORN, ()), Desk(WORN))

    def test_a_desk_is_told_by_its_first_chain_and_its_log(self):
        for many in range(len(self.LOG) + 1):
            first = behind(WORN, *self.LOG[:many])
            for made in (desk_behind(WORN, first.log), desk_behind(chain=WORN, log=first.log), desk_behind(log=first.log, chain=WORN)):
                self.assertIs(type(made), Desk)
                self.assertEqual(made, first)
                self.assertTrue(same(stand(made), stand(first)))
                # It undoes as far.
                other = first.copy()
                for _ in range(many):
                    self.assertEqual(made.undo(), other.undo())
                    self.assertTrue(same(stand(made), stand(other)))
                self.assertRaises(NothingToUndo, made.undo)
        self.assertTrue(same(stand(first), stand(behind(WORN, *self.LOG))))

    def test_bad_chains_ahead_of_bad_logs(self):
        for value in BAD_CHAINS + VALUES[::5]:
            for log in ((), None, [("forget",)], (None,), self.LOG):
                self.refuses(BadChain(chain_error(value)), desk_behind, chain=value, log=log)

    def test_no_tuple(self):
        for log in [value for value in VALUES if not isinstance(value, tuple)] + [list(self.LOG), {("forget",): 1}, "forget", ["forget"]]:
            self.refuses(BadLog(-1), desk_behind, chain=WORN, log=log)

    def test_no_edits(self):
        for value in VALUES + [
            "forget", ["forget"], ("forget", ""), ("forget", None), ("forget",) * 2, ("undo",), ("put",), ("put", "a", "b"), ("take",),
            ("learn",), ("copy",), ("chance",), ["put", "a"], ("put", "a", None), ("Put", "a"), ("put ", "a"), (("put",), "a"), ("", "a"),
            (None, "a"), (True, "a"), ("undo", "a"), ("_pages", "a"), ("version", 1), {"put": "a"}, ("putt", "a"), ("pu", "a"),
            (("forget",),), ("forge",),
        ]:
            for place in (0, 1, 3):
                log = self.LOG[:place] + (value,) + self.LOG[place:]
                self.refuses(BadLog(place), desk_behind, chain=WORN, log=log)

    def test_refused_edits(self):
        for log, place in (
            ((("put", ""),), 0), ((("put", "c"),), 0), ((("put", None),), 0), ((("put", "a"), ("take", BC)), 1),
            ((("take", BC), ("put", "a")), 1), ((("take", BC), ("put", "b"), ("put", "c")), None), ((("take", None),), 0),
            ((("learn", ()),), 0), ((("learn", TWO), ("learn", (("c", 1),))), 1), ((("take", STILL), ("learn", TWO)), 1),
            ((("put", "a" * 40), ("put", "a")), 1), ((("put", "a" * 40), ("forget",), ("put", "a")), None),
            ((("put", "a" * 41),), 0), ((("forget",),) * 40, None), ((("forget",),) * 40 + (("put", "a"),), 40),
            ((("put", "a"),) * 41, 40), ((("put", "ab"),) * 21, 20), ((("forget",),) * 45, 40), ((("put", "a"),) * 40, None),
            ((("take", ("ab", (10 ** 400,), ((1,),), ((1, 1),))), ("learn", TWO)), 1), ((("forget",),) * 40 + (None,), 40),
        ):
            if place is None:
                self.assertTrue(same(desk_behind(WORN, log).log, log))
            else:
                self.refuses(BadLog(place), desk_behind, chain=WORN, log=log)

    def test_the_first_bad_item(self):
        for place in range(len(self.LOG)):
            log = self.LOG[:place] + (("put", "x"), None, ("put", ""))
            self.refuses(BadLog(place), desk_behind, chain=WORN, log=log)


class WhatHolds(Desks):
    def test_two_views_and_both_together(self):
        source = random.Random(204)
        for chain in (WORN, FAIR, TWIN, ONE):
            for _ in range(5):
                one, other = some_view(source, chain, 3), some_view(source, chain, 4)
                self.assertEqual(behind(chain, ("put", one), ("put", other)), behind(chain, ("put", one + other)))

    def test_the_chance_is_the_product_of_what_was_told(self):
        source = random.Random(205)
        for chain in small_chains() + [SIX]:
            desk = Desk(chain)
            worth = ratio((1, 1))
            for sign in some_view(source, chain, 40):
                if sign != ".":
                    worth *= ratio(desk.coming()[chain[0].index(sign)])
                desk.put(sign) if desk.version < 40 else None
                self.assertEqual(ratio(desk.chance()), worth)
                if not worth:
                    break

    def test_some_desks(self):
        """Edits by chance: what is told by the log, and what stands, are one."""
        source = random.Random(206)
        chains = [WORN, FAIR, TWIN, STILL, RING, EVEN, HOP]
        refused = 0
        for _ in range(12):
            first = source.choice(chains)
            desk = Desk(first)
            for _ in range(50):
                word = source.choice(("put", "put", "take", "learn", "forget", "undo", "undo"))
                given = {
                    "put": [some_view(source, WORN, source.randrange(15))], "take": [source.choice(chains)],
                    "learn": [((some_view(source, WORN, 2), 1), ("a", 2))]}.get(word, [])
                before = stand(desk)
                try:
                    self.assertEqual(getattr(desk, word)(*given), before[3] + (-1 if word == "undo" else 1))
                except ChainError:
                    refused += 1
                    self.assertTrue(same(stand(desk), before))
                self.assertIsNone(chain_error(desk.chain))
                self.assertIsNone(view_error(desk.chain, desk.view))
                self.assertEqual(len(desk.log), desk.version)
            made = desk_behind(first, desk.log)
            self.assertTrue(same(stand(made), stand(desk)))
            self.assertTrue(made == desk)
        self.assertGreater(refused, 40)

    def test_twins_and_states_that_never_come(self):
        source = random.Random(207)
        for chain in small_chains()[::2]:
            view = some_view(source, chain, 3, 2)
            if possible_count(chain, view):
                first = behind(chain, ("put", view))
                for other in (parted(chain, 0), with_idle_state(chain), multiplied(chain)):
                    desk = behind(other, ("put", view))
                    self.assertTrue(same((desk.chance(), desk.coming()), (first.chance(), first.coming())))
                    self.assertNotEqual(desk, first)

    def test_desks_beside_each_other(self):
        one, other = Desk(WORN), Desk(FAIR)
        one.put("a")
        other.put("b")
        first = (one.chance(), one.states(), one.coming(), one.best())
        other.learn((("ab", 1),))
        other.put("b.")
        other.chance()
        self.assertTrue(same(first, (one.chance(), one.states(), one.coming(), one.best())))
        self.assertTrue(same(stand(one), (WORN, "a", (("put", "a"),), 1)))
