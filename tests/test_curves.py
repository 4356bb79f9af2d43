"""Promise [6]: curves."""

import copy
import itertools
import unittest
from fractions import Fraction

from curvebells.curves import (
    curve_after, curve_minus, curve_moved, curve_of, curve_plus, curve_scaled, curve_sign, curve_slope, curve_text,
    curve_times, curve_worth, first_sign, is_curve, last_sign, read_curve,
)
from curvebells.errors import InvalidCurve, InvalidText
from tests.helpers import ANY_VALUES, BellCase, fraction, ratio, sign, some_curve, some_ratio, source, times, worth

FIXED = [(), (1,), (-3,), (0, 1), (5, -1), (0, 0, 1), (-2, 0, 1), (1, -2, 1), (0, 0, 0, -4), (1, 0, 0, 0, 0, 0, 0, 0, 2)]
POINTS = [Fraction(top, bottom) for top in range(-4, 5) for bottom in (1, 3)]


def some_curves(seed, degree, size):
    rng = source(seed)
    return FIXED + [some_curve(rng, rng.randint(0, degree), size) for _ in range(12)]


class TestMaking(BellCase):

    def test_curve_of(self):
        self.assert_same(curve_of([1, 0, -2]), (1, 0, -2))
        self.assert_same(curve_of((1, 0, 0)), (1,))
        self.assert_same(curve_of(values=[0, 0, 3, 0]), (0, 0, 3))
        self.assert_same(curve_of([]), ())
        self.assert_same(curve_of(()), ())
        self.assert_same(curve_of((0, 0)), ())
        self.assert_same(curve_of([10 ** 12 - 1] * 9), (10 ** 12 - 1,) * 9)

    def test_lists_stay(self):
        values = [1, 2, 0, 0]
        curve = curve_of(values)
        self.assertEqual(values, [1, 2, 0, 0])
        values[0] = 9
        self.assertEqual(curve, (1, 2))

    def test_no_curve(self):
        self.assert_error(InvalidCurve, {"at": 0}, curve_of, [True])
        self.assert_error(InvalidCurve, {"at": 1}, curve_of, (1, "2", None))
        self.assert_error(InvalidCurve, {"at": 2}, curve_of, [0, 0, [], 1])
        self.assert_error(InvalidCurve, {"at": 0}, curve_of, [(1,)])
        self.assert_error(InvalidCurve, {"at": 3}, curve_of, [1, 0, 0, False])
        for value in (None, 3, True, "", "12", "1 2"):
            self.assert_error(InvalidCurve, {"at": -1}, curve_of, value)

    def test_any_value(self):
        for value in ANY_VALUES:
            if not isinstance(value, (list, tuple)):
                self.assert_error(InvalidCurve, {"at": -1}, curve_of, value)
                continue
            wrong = [at for at, one in enumerate(value) if one.__class__ is not int]
            if wrong:
                self.assert_error(InvalidCurve, {"at": wrong[0]}, curve_of, value)
            else:
                self.assertIs(is_curve(curve_of(value)), True)

    def test_is_curve(self):
        for curve in FIXED:
            self.assertIs(is_curve(curve), True)
        for wrong in ((0,), (1, 0), (0, 0), [1], [], (True,), (1, True), (1, None), ("1",), "1", "", 1, 0, None, True,
                      ((1,),), (1, ())):
            self.assertIs(is_curve(wrong), False, wrong)
        found = [value for value in ANY_VALUES if is_curve(value)]
        self.assertEqual(found, [(), (1, 2), (0, 2), (2, 4), (1, -2), (1, 2, 3)])


class TestReckoning(BellCase):

    def test_sums(self):
        for f, g in itertools.product(some_curves(1, 8, 99), some_curves(2, 8, 99)):
            total, rest = curve_plus(f, g), curve_minus(f, g)
            self.assertTrue(is_curve(total) and is_curve(rest))
            for point in POINTS[:6]:
                self.assertEqual(worth(total, point), worth(f, point) + worth(g, point))
                self.assertEqual(worth(rest, point), worth(f, point) - worth(g, point))
            self.assertEqual(len(total), len(curve_of(total)))
        self.assert_same(curve_plus((1, 2, 3), (4, -2, -3)), (5,))
        self.assert_same(curve_minus((1, 2), (1, 2)), ())
        self.assert_same(curve_minus((), (1, 2)), (-1, -2))
        self.assert_same(curve_plus((), ()), ())
        self.assert_same(curve_minus(g=(1,), f=(0, 1)), (-1, 1))

    def test_products(self):
        for f, g in itertools.product(some_curves(3, 4, 10000), some_curves(4, 4, 10000)):
            self.assert_same(curve_times(f, g), times(f, g))
        self.assert_same(curve_times((), (1, 2)), ())
        self.assert_same(curve_times((1, 2), ()), ())
        self.assert_same(curve_times((-1, 1), (1, 1)), (-1, 0, 1))

    def test_scaled(self):
        self.assert_same(curve_scaled((1, 0, -2), -3), (-3, 0, 6))
        self.assert_same(curve_scaled((1, 0, -2), 0), ())
        self.assert_same(curve_scaled((), 5), ())
        self.assert_same(curve_scaled(n=2, f=(7,)), (14,))

    def test_slope(self):
        self.assert_same(curve_slope(()), ())
        self.assert_same(curve_slope((5,)), ())
        self.assert_same(curve_slope((5, 3)), (3,))
        self.assert_same(curve_slope((1, -2, 3, -4)), (-2, 6, -12))
        self.assert_same(curve_slope((0,) * 8 + (10 ** 11,)), (0,) * 7 + (8 * 10 ** 11,))

    def test_moved(self):
        self.assert_same(curve_moved((), 4), ())
        self.assert_same(curve_moved((7,), 4), (7,))
        self.assert_same(curve_moved((0, 0, 1), 1), (1, 2, 1))
        self.assert_same(curve_moved(n=0, f=(1, 2, 3)), (1, 2, 3))
        for f, n in itertools.product(some_curves(5, 8, 10 ** 6), (-20, -3, -1, 0, 1, 2, 20)):
            moved = curve_moved(f, n)
            self.assertTrue(is_curve(moved))
            self.assertEqual(len(moved), len(f))
            for point in POINTS[:9]:
                self.assertEqual(worth(moved, point), worth(f, point + n))

    def test_after(self):
        self.assert_same(curve_after((), (1, 2)), ())
        self.assert_same(curve_after((5, 3, 1), ()), (5,))
        self.assert_same(curve_after((0, 3, 1), ()), ())
        self.assert_same(curve_after((5,), (1, 2)), (5,))
        self.assert_same(curve_after((-4, 0, 1), (2,)), ())
        self.assert_same(curve_after((0, 0, 1), (1, 1)), (1, 2, 1))
        for f, g in itertools.product(some_curves(6, 4, 10000), some_curves(7, 4, 10000)):
            behind = curve_after(f, g)
            self.assertTrue(is_curve(behind))
            for point in POINTS[:4]:
                self.assertEqual(worth(behind, point), worth(f, worth(g, point)))

    def test_worth_and_sign(self):
        self.assert_same(curve_worth((), (3, 7)), (0, 1))
        self.assert_same(curve_worth((4,), (3, 7)), (4, 1))
        self.assert_same(curve_worth((1, 0, -2), (1, 2)), (1, 2))
        self.assert_same(curve_worth((-1, 0, 4), one=(1, 2)), (0, 1))
        self.assert_same([curve_sign((-1, 0, 4), one) for one in ((0, 1), (1, 2), (-1, 2), (-1, 1))], [-1, 0, 0, 1])
        rng = source(8)
        for f in some_curves(9, 8, 10 ** 12 - 1):
            for _ in range(8):
                one = some_ratio(rng, 10 ** 4, 10 ** 4)
                number = worth(f, fraction(one))
                self.assert_same(curve_worth(f, one), ratio(number))
                self.assert_same(curve_sign(f, one), sign(number))

    def test_end_signs(self):
        self.assert_same((first_sign(()), last_sign(())), (0, 0))
        self.assert_same((first_sign((0, 0, -3, 5)), last_sign((0, 0, -3, 5))), (-1, 1))
        self.assert_same((first_sign((7,)), last_sign((7,))), (1, 1))
        self.assert_same((first_sign((1, -9)), last_sign((1, -9))), (1, -1))
        self.assert_same((first_sign((0, 2, -9)), last_sign((-1, 0, -9))), (1, -1))

    def test_nothing_is_changed(self):
        f, g = (1, -2, 1), (0, 3)
        before = copy.deepcopy((f, g))
        for _ in range(2):
            self.assert_same(curve_times(f, g), (0, 3, -6, 3))
            self.assert_same(curve_after(f, g), (1, -6, 9))
            self.assert_same(curve_moved(f, 1), (0, 0, 1))
        self.assertEqual((f, g), before)


class TestText(BellCase):

    def test_text(self):
        self.assertEqual(curve_text(()), "0")
        self.assertEqual(curve_text((1, 0, -2)), "1 0 -2")
        self.assertEqual(curve_text((-5,)), "-5")
        self.assert_same(read_curve("0"), ())
        self.assert_same(read_curve(text="-2 0 1"), (-2, 0, 1))
        for f in some_curves(10, 8, 999999999):
            self.assert_same(read_curve(curve_text(f)), f)

    def test_wrong_words(self):
        for text, at in (("", 0), (" ", 0), ("1 ", 1), (" 1", 0), ("1  2", 1), ("1 2 x", 2), ("x y", 0), ("01", 0),
                         ("1 -0", 1), ("1 +2", 1), ("1000000000", 0), ("1 -1000000000", 1), ("1\n2", 0), ("1 2\n", 1),
                         ("1\t2", 0), ("1 1.0 0", 1), ("1,2", 0), ("\u0663", 0), ("1 \u00b2", 1), ("1_0", 0), ("-", 0)):
            self.assert_error(InvalidText, {"at": at}, read_curve, text)

    def test_last_nought(self):
        self.assert_error(InvalidText, {"at": 1}, read_curve, "0 0")
        self.assert_error(InvalidText, {"at": 2}, read_curve, "1 2 0")

    def test_first_what_is_listed_first(self):
        self.assert_error(InvalidText, {"at": 1}, read_curve, "1 x 0")
        self.assert_error(InvalidText, {"at": 0}, read_curve, " 0")

    def test_nine_figures(self):
        self.assert_same(read_curve("999999999 -999999999"), (999999999, -999999999))

    def test_any_value(self):
        for value in ANY_VALUES:
            if not isinstance(value, str):
                self.assert_error(InvalidText, {"at": 0}, read_curve, value)
        self.assert_error(InvalidText, {"at": 0}, read_curve, b"1 2")


if __name__ == "__main__":
    unittest.main()
