import unittest
from fractions import Fraction
from itertools import product

from helpers import NO_NUMBERS, Anything, Raises, fraction_of
from slitstairs.errors import BadRatio, NoRatio
from slitstairs.ratios import Ratio

GREAT = 7 ** 300
NUMBERS = (0, 1, -1, 2, -2, 3, 6, -12, 35, 10 ** 18, -10 ** 18, GREAT, -GREAT, 6 * GREAT, 10 ** 299 + 9, 1 - 10 ** 299)
BOTTOMS = (1, 2, 3, 12, 10 ** 18, GREAT, 10 ** 299)
PAIRS = [(top, bottom) for top in NUMBERS for bottom in BOTTOMS]


class RatioTest(Raises, unittest.TestCase):
    def told(self, ratio):
        self.assertIs(ratio.__class__, Ratio)
        self.assertEqual({ratio.top.__class__, ratio.bottom.__class__}, {int})
        return (ratio.top, ratio.bottom)

    def test_lowest_terms(self):
        self.assertEqual(self.told(Ratio(6, 4)), (3, 2))
        self.assertEqual(self.told(Ratio(-6, 4)), (-3, 2))
        self.assertEqual(self.told(Ratio(0, 9)), (0, 1))
        self.assertEqual(self.told(Ratio(5)), (5, 1))
        self.assertEqual(self.told(Ratio(top=-8, bottom=4)), (-2, 1))
        for top, bottom in PAIRS:
            wanted = Fraction(top, bottom)
            self.assertEqual(self.told(Ratio(top, bottom)), (wanted.numerator, wanted.denominator))

    def test_sums_differences_and_products(self):
        for (a, b), (c, d) in product(PAIRS[::3], repeat=2):
            one, other = Ratio(a, b), Ratio(c, d)
            first, second = Fraction(a, b), Fraction(c, d)
            self.assertEqual(fraction_of(one + other), first + second)
            self.assertEqual(fraction_of(one - other), first - second)
            self.assertEqual(fraction_of(one * other), first * second)
            self.assertEqual(fraction_of(-one), -first)
            self.assertEqual((self.told(one), self.told(other)), (self.told(Ratio(a, b)), self.told(Ratio(c, d))))
            if second:
                self.assertEqual(fraction_of(one.over(other)), first / second)
                self.assertGreaterEqual(one.over(other).bottom, 1)

    def test_results_are_new_and_in_lowest_terms(self):
        half = Ratio(1, 2)
        for found, told in ((half + half, (1, 1)), (half - half, (0, 1)), (half * Ratio(4), (2, 1)), (-half, (-1, 2)),
                            (half.over(Ratio(-3, 4)), (-2, 3)), (half + Ratio(0), (1, 2)), (half * Ratio(1), (1, 2)),
                            (Ratio(-1, 2).over(Ratio(-1, 4)), (2, 1)), (Ratio(0).over(Ratio(-5)), (0, 1))):
            self.assertEqual(self.told(found), told)
            self.assertIsNot(found, half)

    def test_division_by_zero(self):
        for ratio in (Ratio(0), Ratio(1), Ratio(-GREAT, 3)):
            self.raises(NoRatio, {}, ratio.over, Ratio(0))
            self.raises(NoRatio, {}, ratio.over, Ratio(0, 7))

    def test_things_that_are_no_ratios(self):
        for thing in (1, 0.5, "1", None, Fraction(1, 2)):
            for call in (lambda: Ratio(1) + thing, lambda: Ratio(1) - thing, lambda: Ratio(1) * thing):
                with self.assertRaises(TypeError):
                    call()

    def test_equality(self):
        self.assertTrue(Ratio(1, 2) == Ratio(50, 100))
        self.assertFalse(Ratio(1, 2) != Ratio(50, 100))
        for other in (Ratio(-1, 2), Ratio(1, 3), Ratio(2), Ratio(1), 0.5, Fraction(1, 2), "1/2", (1, 2), None):
            self.assertFalse(Ratio(1, 2) == other)
            self.assertTrue(Ratio(1, 2) != other)
        for other in (1, True, 1.0, Fraction(1), "1"):
            self.assertFalse(Ratio(1) == other)
            self.assertFalse(other == Ratio(1))
        self.assertFalse(Ratio(0) == 0)
        self.assertIs(Ratio(3, 4).__eq__(Anything()), False)

    def test_truth(self):
        for top, bottom in PAIRS:
            self.assertIs(bool(Ratio(top, bottom)), top != 0)

    def test_text(self):
        for ratio, text in ((Ratio(3, 4), "3/4"), (Ratio(-3), "-3"), (Ratio(-6, 4), "-3/2"), (Ratio(0, 5), "0"),
                            (Ratio(8, 4), "2"), (Ratio(10 ** 18, 3), "1" + "0" * 18 + "/3")):
            self.assertEqual(str(ratio), text)

    def test_wrong_numbers(self):
        for thing in (*NO_NUMBERS, Ratio(1), Anything(), Fraction(1)):
            self.raises(BadRatio, {"what": "top"}, Ratio, thing)
            self.raises(BadRatio, {"what": "top"}, Ratio, thing, 0)
            self.raises(BadRatio, {"what": "bottom"}, Ratio, 1, thing)
        for bottom in (0, -1, -GREAT):
            self.raises(BadRatio, {"what": "bottom"}, Ratio, 0, bottom)
            self.raises(BadRatio, {"what": "top"}, Ratio, True, bottom)
