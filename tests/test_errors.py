import copy
import unittest

from veiledchains import errors
from veiledchains.errors import (
    BadChain, BadLog, BadText, ChainError, Never, NoRank, NothingToUndo, TooMany, Unfit,
)

FIELDS = {
    Unfit: None, BadText: None, BadChain: "error", Never: None, NoRank: "given", TooMany: "limit",
    NothingToUndo: None, BadLog: "place",
}
WORTHS = [
    None, True, False, 0, 1, -7, 10 ** 399, 10 ** 6000, "", "form", "a\nb", (), (1, (True, "x")), ("steps", 1), [], [1, [2]],
    {}, {"a": [1]}, {(1, 2): None}, Unfit(), NoRank(3),
]


class Errors(unittest.TestCase):
    def test_the_eight_stand_straight_under_chain_error(self):
        self.assertEqual(ChainError.__bases__, (ValueError,))
        self.assertEqual(len(FIELDS), 8)
        for error in FIELDS:
            self.assertEqual(error.__bases__, (ChainError,), error)
            self.assertTrue(issubclass(error, ValueError), error)

    def test_no_one_is_under_another_one(self):
        for one in FIELDS:
            for other in FIELDS:
                self.assertEqual(issubclass(one, other), one is other, (one, other))

    def test_they_have_their_names(self):
        for error in FIELDS:
            self.assertIs(getattr(errors, error.__name__), error)
            self.assertEqual(error.__module__, "veiledchains.errors")

    def test_without_arguments(self):
        for error, field in FIELDS.items():
            if field is None:
                made = error()
                self.assertIs(type(made), error)
                self.assertEqual(vars(made), {}, error)
        self.assertIsInstance(ChainError(), ValueError)

    def test_fields_are_kept_as_they_were_passed(self):
        for error, field in FIELDS.items():
            if field is None:
                continue
            for worth in WORTHS:
                for made in (error(worth), error(**{field: worth})):
                    self.assertIs(type(made), error)
                    self.assertIs(getattr(made, field), worth)
                    self.assertEqual(list(vars(made)), [field])

    def test_what_was_passed_stays_as_it_was(self):
        for error, field in FIELDS.items():
            if field is not None:
                worth = [1, {"a": [2]}]
                error(worth)
                error(**{field: worth})
                self.assertEqual(worth, [1, {"a": [2]}])

    def test_fields_are_asked_for(self):
        for error, field in FIELDS.items():
            if field is not None:
                self.assertRaises(TypeError, error)

    def test_they_are_raised_and_caught_and_said(self):
        for error, field in FIELDS.items():
            for worth in WORTHS:
                made = error() if field is None else error(worth)
                for over in (error, ChainError, ValueError):
                    with self.assertRaises(over) as caught:
                        raise made
                    self.assertIs(caught.exception, made)
                self.assertIsInstance(str(made), str)

    def test_they_can_be_copied(self):
        for error, field in FIELDS.items():
            made = error() if field is None else error(**{field: ["a"]})
            for copied in (copy.copy(made), copy.deepcopy(made)):
                self.assertIs(type(copied), error)
                self.assertEqual(vars(copied), vars(made))


if __name__ == "__main__":
    unittest.main()
