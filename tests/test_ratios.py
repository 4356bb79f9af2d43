"""Promise [5]: ratios."""

import itertools
import unittest
from fractions import Fraction

from curvebells import ratios
from curvebells.errors import InvalidText
from curvebells.ratios import (
    is_ratio, middle_ratio, ratio_by, ratio_minus, ratio_order, ratio_over, ratio_plus, ratio_text, ratio_times,
    read_ratio, simplest_ratio,
)
from tests.helpers import ANY_VALUES, BellCase, fraction, ratio, some_ratio, source

SOME = [ratio(Fraction(top, bottom)) for top in range(-7, 8) for bottom in (1, 2, 3, 5, 6)]


class TestMaking(BellCase):

    def test_ratio_by(self):
        self.assert_same(ratio_by(6, 4), (3, 2))
        self.assert_same(ratio_by(6, -4), (-3, 2))
        self.assert_same(ratio_by(-6, -4), (3, 2))
        self.assert_same(ratio_by(0, -9), (0, 1))
        self.assert_same(ratio_by(5), (5, 1))
        self.assert_same(ratio_by(top=-5, bottom=10), (-1, 2))
        self.assert_same(ratio_by(10 ** 12, 10 ** 11), (10, 1))

    def test_is_ratio(self):
        for one in SOME:
            self.assertIs(is_ratio(one), True)
        self.assertIs(is_ratio((10 ** 12 + 1, 10 ** 12)), True)
        for wrong in ((0, 2), (2, 4), (1, 0), (0, 0), (1, -2), (-3, -1), [1, 2], (1,), (), (1, 2, 3), (True, 2),
                      (1, True), (False, 1), ("1", "2"), (1, "2"), (None, 1), 1, "1/2", None, True, ((1, 2),),
                      ((1,), 2), ([], 1)):
            self.assertIs(is_ratio(wrong), False, wrong)

    def test_any_value(self):
        found = [value for value in ANY_VALUES if is_ratio(value)]
        self.assertEqual(found, [(1, 2)])


class TestReckoning(BellCase):

    def test_order(self):
        self.assert_same(ratio_order((1, 3), (1, 2)), -1)
        self.assert_same(ratio_order((1, 2), (1, 2)), 0)
        self.assert_same(ratio_order((-1, 3), (-1, 2)), 1)
        for one, other in itertools.product(SOME, SOME):
            left, right = fraction(one), fraction(other)
            self.assert_same(ratio_order(one, other), (left > right) - (left < right))

    def test_sums_and_products(self):
        for one, other in itertools.product(SOME, SOME):
            left, right = fraction(one), fraction(other)
            self.assert_same(ratio_plus(one, other), ratio(left + right))
            self.assert_same(ratio_minus(one, other), ratio(left - right))
            self.assert_same(ratio_times(one, other), ratio(left * right))
            self.assert_same(middle_ratio(one, other), ratio((left + right) / 2))
            if right != 0:
                self.assert_same(ratio_over(one, other), ratio(left / right))

    def test_by_names(self):
        for name in ("ratio_order", "ratio_plus", "ratio_minus", "ratio_times", "ratio_over", "middle_ratio"):
            function = getattr(ratios, name)
            self.assert_same(function(other=(-1, 3), one=(1, 2)), function((1, 2), (-1, 3)))


class TestText(BellCase):

    def test_text(self):
        self.assertEqual(ratio_text((3, 1)), "3")
        self.assertEqual(ratio_text((-3, 2)), "-3/2")
        self.assertEqual(ratio_text((0, 1)), "0")
        for one in SOME:
            self.assert_same(read_ratio(ratio_text(one)), one)

    def test_nine_figures(self):
        self.assert_same(read_ratio("-999999999/100000000"), (-999999999, 100000000))
        self.assert_same(read_ratio("999999999"), (999999999, 1))
        for text in ("1000000000", "-1000000000", "1/1000000000", "1000000000/3"):
            self.assert_error(InvalidText, {"at": 0}, read_ratio, text)

    def test_wrong_texts(self):
        for text in ("", "-", "+3", "03", "-0", "00", "0/1", "3/1", "-3/1", "2/4", "0/2", "3/-2", "-3/-2", "3/0",
                     "3/", "/2", "/", "1/2/3", " 3", "3 ", "1 /2", "1/ 2", "3\n", "3.0", "1_0", "a", "1/02",
                     "\u0663", "\u00b2", "--3", "1/+2", "None"):
            self.assert_error(InvalidText, {"at": 0}, read_ratio, text)

    def test_any_value(self):
        for value in ANY_VALUES:
            if value == "0" and isinstance(value, str):
                self.assert_same(read_ratio(value), (0, 1))
            elif value == "-3/2":
                self.assert_same(read_ratio(value), (-3, 2))
            else:
                self.assert_error(InvalidText, {"at": 0}, read_ratio, value)


def sought_ratio(low, high):
    """The simplest ratio between two fractions, by trying all."""
    bottom = 0
    while True:
        bottom += 1
        first = -1000 * bottom if low is None else (low.numerator * bottom) // low.denominator
        last = 1000 * bottom if high is None else (high.numerator * bottom) // high.denominator + 1
        tops = [top for top in range(first, last + 1) if (low is None or Fraction(top, bottom) > low)
                and (high is None or Fraction(top, bottom) < high)]
        if tops:
            return ratio(Fraction(min(tops, key=abs), bottom))


class TestSimplest(BellCase):

    def test_all_between(self):
        for one, other in itertools.product(SOME + [None], SOME + [None]):
            low = None if one is None else fraction(one)
            high = None if other is None else fraction(other)
            if low is None or high is None or low < high:
                self.assert_same(simplest_ratio(one, other), sought_ratio(low, high))
            else:
                self.assertIsNone(simplest_ratio(one, other))

    def test_without_bounds(self):
        self.assert_same(simplest_ratio(), (0, 1))
        self.assert_same(simplest_ratio(low=(0, 1)), (1, 1))
        self.assert_same(simplest_ratio(high=(0, 1)), (-1, 1))
        self.assert_same(simplest_ratio((3, 1)), (4, 1))
        self.assert_same(simplest_ratio((-3, 1)), (0, 1))
        self.assert_same(simplest_ratio(None, (-3, 1)), (-4, 1))
        self.assert_same(simplest_ratio(None, (1, 9)), (0, 1))

    def test_wrong_order(self):
        self.assertIsNone(simplest_ratio((1, 2), (1, 2)))
        self.assertIsNone(simplest_ratio((1, 2), (1, 3)))
        self.assertIsNone(simplest_ratio((-1, 3), (-1, 2)))
        self.assertIsNone(simplest_ratio((1, 1), (-1, 1)))
        self.assertIsNone(simplest_ratio((0, 1), (0, 1)))

    def test_least_size(self):
        self.assert_same(simplest_ratio((2, 1), (9, 1)), (3, 1))
        self.assert_same(simplest_ratio((-9, 1), (-2, 1)), (-3, 1))
        self.assert_same(simplest_ratio((0, 1), (1, 1)), (1, 2))
        self.assert_same(simplest_ratio((1, 1), (2, 1)), (3, 2))
        self.assert_same(simplest_ratio((-2, 1), (-1, 1)), (-3, 2))
        self.assert_same(simplest_ratio((0, 1), (1, 10 ** 12)), (1, 10 ** 12 + 1))

    def test_near_neighbours(self):
        one, other = (10 ** 12 - 1, 10 ** 12), (10 ** 12, 10 ** 12 + 1)
        between = simplest_ratio(one, other)
        self.assertEqual((ratio_order(one, between), ratio_order(between, other)), (-1, -1))
        self.assertEqual(between, (2 * 10 ** 12 - 1, 2 * 10 ** 12 + 1))
        rng = source(5)
        for _ in range(200):
            low = some_ratio(rng, 60, 40)
            high = ratio(fraction(low) + Fraction(1, rng.randint(1, 90)))
            self.assert_same(simplest_ratio(low, high), sought_ratio(fraction(low), fraction(high)))


if __name__ == "__main__":
    unittest.main()
