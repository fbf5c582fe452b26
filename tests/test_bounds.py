import unittest

from veiledchains import bounds

TOLD = {
    "MAX_STATES": 6, "MAX_SIGNS": 5, "MAX_ROW": 40, "MAX_WORD": 6, "MAX_RANK": 200, "MAX_HEAP": 12, "MAX_TIMES": 20,
    "MAX_TOTAL": 120, "MAX_BEAT": 40, "MAX_TEST": 5, "MAX_STANDS": 8, "MAX_FIGURES": 400, "MAX_EDITS": 40,
}


class Bounds(unittest.TestCase):
    def test_each_bound_has_its_worth(self):
        self.assertEqual(len(TOLD), 13)
        for name, worth in TOLD.items():
            self.assertIs(type(getattr(bounds, name)), int, name)
            self.assertEqual(getattr(bounds, name), worth, name)


if __name__ == "__main__":
    unittest.main()
