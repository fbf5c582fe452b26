import fractions
import math
import unittest

from helpers import NOT_STRINGS, Calls

from veiledchains.errors import BadText, Unfit
from veiledchains.fractions import added, compared, divided, fraction_text, lowest, multiplied, read_fraction

GREAT = [10 ** 100 + 267, 2 ** 500, 6 ** 210, 10 ** 399, 10 ** 400 - 1, math.factorial(200)]
INTEGERS = sorted(set(list(range(-7, 8)) + [12, -12, 30, -30, 97] + GREAT + [-great for great in GREAT]))
WORTHS = sorted({fractions.Fraction(a, b) for a in (-12, -5, -3, -2, -1, 0, 1, 2, 3, 4, 7) for b in (1, 2, 3, 4, 10)})
WORTHS += [
    fractions.Fraction(10 ** 399, 7), fractions.Fraction(-(10 ** 400) + 1, 2 ** 1300),
    fractions.Fraction(6 ** 210, 35 ** 200), fractions.Fraction(1, 10 ** 399), fractions.Fraction(-1, 10 ** 399 + 1),
]


def pair(worth):
    return (worth.numerator, worth.denominator)


class Lowest(Calls):
    def test_examples(self):
        self.tells((3, 4), lowest, a=6, b=8)
        self.tells((-1, 2), lowest, a=3, b=-6)
        self.tells((0, 1), lowest, a=0, b=-5)
        self.tells((2, 1), lowest, a=-4, b=-2)

    def test_nought_has_one_fraction(self):
        for b in INTEGERS:
            if b != 0:
                self.tells((0, 1), lowest, a=0, b=b)

    def test_every_worth_has_one_fraction(self):
        for a in INTEGERS:
            for b in INTEGERS:
                if b != 0:
                    self.tells(pair(fractions.Fraction(a, b)), lowest, a=a, b=b)

    def test_common_divisors_fall_out(self):
        for common in (1, -1, 2, -3, 10 ** 100, -(7 ** 130)):
            self.tells((3, 4), lowest, a=3 * common, b=4 * common)
            self.tells((-3, 4), lowest, a=-3 * common, b=4 * common)

    def test_unfit_below_0(self):
        for a in INTEGERS:
            self.refuses(Unfit(), lowest, a=a, b=0)


class Reckoning(Calls):
    def test_examples(self):
        self.tells((5, 6), added, one=(1, 2), other=(1, 3))
        self.tells((0, 1), added, one=(1, 2), other=(-1, 2))
        self.tells((1, 2), multiplied, one=(2, 3), other=(3, 4))
        self.tells((-2, 3), divided, one=(1, 2), other=(-3, 4))
        self.tells(-1, compared, one=(1, 3), other=(1, 2))
        self.tells(0, compared, one=(-1, 2), other=(-1, 2))
        self.tells(1, compared, one=(0, 1), other=(-7, 2))
        self.refuses(Unfit(), divided, one=(1, 2), other=(0, 1))

    def test_sums_and_products_are_those_of_rational_numbers(self):
        for one in WORTHS:
            for other in WORTHS:
                given = {"one": pair(one), "other": pair(other)}
                self.tells(pair(one + other), added, **given)
                self.tells(pair(one * other), multiplied, **given)

    def test_quotients_are_those_of_rational_numbers(self):
        for one in WORTHS:
            for other in WORTHS:
                if other == 0:
                    self.refuses(Unfit(), divided, one=pair(one), other=(0, 1))
                else:
                    self.tells(pair(one / other), divided, one=pair(one), other=pair(other))

    def test_compared_is_the_order_of_rational_numbers(self):
        for one in WORTHS:
            for other in WORTHS:
                wanted = (one > other) - (one < other)
                self.tells(wanted, compared, one=pair(one), other=pair(other))

    def test_turned_about(self):
        for worth in WORTHS:
            if worth != 0:
                self.tells((1, 1), multiplied, one=pair(worth), other=pair(1 / worth))
                self.tells((1, 1), divided, one=pair(worth), other=pair(worth))
            self.tells((0, 1), added, one=pair(worth), other=pair(-worth))

    def test_near_ones_are_told_apart(self):
        great = 10 ** 399
        self.tells(-1, compared, one=(great - 1, great), other=(great, great + 1))
        self.tells(1, compared, one=(-great + 1, great), other=(-great, great + 1))


class Texts(Calls):
    def test_examples(self):
        self.tells("3/4", fraction_text, fraction=(3, 4))
        self.tells("-2", fraction_text, fraction=(-2, 1))
        self.tells("0", fraction_text, fraction=(0, 1))
        self.tells((-5, 12), read_fraction, value="-5/12")
        for value in ("2/4", "3/1", "-0"):
            self.refuses(BadText(), read_fraction, value=value)

    def test_texts(self):
        nines = 10 ** 400 - 1
        for fraction, text in [
            ((1, 1), "1"), ((-1, 1), "-1"), ((10, 1), "10"), ((100, 7), "100/7"), ((-1, 3), "-1/3"), ((7, 2), "7/2"),
            ((nines, 1), "9" * 400), ((-nines, 1), "-" + "9" * 400), ((1, 10 ** 399), "1/1" + "0" * 399),
            ((10 ** 399, nines), "1" + "0" * 399 + "/" + "9" * 400),
            ((-(10 ** 64), 10 ** 128 + 1), "-1" + "0" * 64 + "/1" + "0" * 127 + "1"),
        ]:
            self.tells(text, fraction_text, fraction=fraction)
            self.tells(fraction, read_fraction, value=text)

    def test_read_leads_back(self):
        for worth in WORTHS:
            self.tells(pair(worth), read_fraction, value=fraction_text(pair(worth)))

    def test_unlike_fractions_have_unlike_texts(self):
        pairs = {pair(worth) for worth in WORTHS}
        self.assertEqual(len({fraction_text(one) for one in pairs}), len(pairs))

    def test_texts_beyond_the_limit(self):
        for figures in (401, 1000, 4300, 4301, 5000):
            text = "12" + "0" * (figures - 3) + "7"
            great = (12 * 10 ** (figures - 2)) + 7
            self.tells(text, fraction_text, fraction=(great, 1))
            self.tells("-" + text + "/2", fraction_text, fraction=(-great, 2))
            self.tells("2/" + text, fraction_text, fraction=(2, great))

    def test_texts_of_no_fraction(self):
        for value in [
            "", "-", "--1", "-0", "-0/2", "00", "01", "-01", "1/1", "-1/1", "0/1", "1/0", "0/0", "-1/0", "2/4", "-2/4",
            "0/2", "/2", "-/2", "1/", "/", "1/-2", "-1/-2", "+1", "1/+2", "1_0", "1/1_0", " 1", "1 ", "1\n", "\n1", "1/2\n",
            "1/ 2", "1 /2", "1 / 2", "1/02", "1/2 ", "1//2", "1/2/3", "1/2/", "1.0", "1.5", "1e3", "0x1", "a", "1a", "1-",
            "1-2", "4/2", "10/15", "nan", "1,0", "1\t", "\u0661", "1/\u0662", "\u00b2", "1/\u00b2", "\uff11",
        ]:
            self.refuses(BadText(), read_fraction, value=value)

    def test_too_many_figures(self):
        for figures in (401, 402, 4300, 5000, 20000):
            for great in ("1" + "0" * (figures - 1), "9" * figures):
                for value in (great, "-" + great, great + "/7", "-" + great + "/7", "1/" + great, great + "/" + great[1:]):
                    self.refuses(BadText(), read_fraction, value=value)

    def test_noughts_ahead_do_not_hide_figures(self):
        for value in ("0" * 401, "0" * 400 + "1", "0" * 399 + "1", "1/" + "0" * 399 + "2", "0" * 5000):
            self.refuses(BadText(), read_fraction, value=value)

    def test_what_is_no_string(self):
        for value in NOT_STRINGS + [(1, 2), [1, 2], ("1/2",), ["1/2"]]:
            self.refuses(BadText(), read_fraction, value=value)


if __name__ == "__main__":
    unittest.main()
