"""Promises [10] to [14]: places."""

import itertools
import unittest
from fractions import Fraction

from curvebells.curves import curve_slope
from curvebells.cuts import plain_curve
from curvebells.errors import InvalidPlace
from curvebells.places import (
    gathered_places, is_place, moments_of, need_place, place_in, place_moved, place_order, place_sides, place_sign,
    places_of, ratio_against, ratio_of, ratio_place, simplest_between, whole_times, zero_times,
)
from curvebells.ratios import simplest_ratio
from tests.helpers import (
    ANY_VALUES, ROOTS, BellCase, decimal, fraction, known_sign, known_zeros, ratio, root_order, sign, some_curve,
    some_factors, some_known_place, source, times,
)

ROOT = ((-2, 0, 1), 2)
HALF = ((-1, 0, 4), 2)
NEAR_ONE = (times((-10 ** 6, 10 ** 6 + 1), (-10 ** 6, 10 ** 6 + 2)), 2)
# Two zeros that no ten figures tell apart: near 1 / 10 ** 5.
CLOSE = (-2, 4 * 10 ** 5, -2 * 10 ** 10, 0, 0, 0, 0, 1)


class TestNeedPlace(BellCase):

    def test_same_tuple(self):
        for place in (ROOT, ((0, 1), 1), ((-1, 0, 4), 1), ((0, -2, 0, 1), 3), ((-3, 2), 1), (CLOSE, 3)):
            self.assertIs(need_place(place), place)
            self.assertIs(need_place(value=place), place)
            self.assertIs(is_place(place), True)

    def test_no_pair(self):
        for value in (0, None, "ab", True, (), ((0, 1),), ((0, 1), 1, 1), [(0, 1), 1], (1,)):
            self.assert_error(InvalidPlace, {"at": -1}, need_place, value)
            self.assertIs(is_place(value), False)

    def test_no_plain_curve(self):
        curves = ((), (1,), (5,), (2, 0, -2), (2, -1), (1, -2, 1), (1, 0, 2, 0, 1), (0, 0, 1), (4, 2), (0, 2), [0, 1],
                  (0, True), (0, 1, 0), None, 1, "t", (0, "1"), ((0, 1),))
        for curve in curves:
            for number in (1, 0, None):
                self.assert_error(InvalidPlace, {"at": 0}, need_place, (curve, number))
            self.assertIs(is_place((curve, 1)), False)

    def test_no_number(self):
        for number in (0, 3, -1, True, None, "1", (1,), 10 ** 12):
            self.assert_error(InvalidPlace, {"at": 1}, need_place, ((-2, 0, 1), number))
            self.assertIs(is_place(((-2, 0, 1), number)), False)
        self.assert_error(InvalidPlace, {"at": 1}, need_place, ((1, 0, 1), 1))
        self.assert_error(InvalidPlace, {"at": 1}, need_place, ((0, 1), 2))
        self.assert_error(InvalidPlace, {"at": 1}, need_place, (CLOSE, 4))

    def test_any_value(self):
        for value in ANY_VALUES:
            wanted = value == ((0, 1), 1) or value == ((-1, 1), 1) or value == ((-2, 0, 1), 2)
            self.assertIs(is_place(value), wanted)
            if not wanted:
                with self.assertRaises(InvalidPlace):
                    need_place(value)


class TestPlacesOf(BellCase):

    def test_by_hand(self):
        self.assert_same(moments_of((0, -2, 0, 1)), (((0, -2, 0, 1), 3),))
        self.assert_same(places_of((0, 4, 0, -2)), (((0, -2, 0, 1), 1), ((0, -2, 0, 1), 2), ((0, -2, 0, 1), 3)))
        self.assert_same(places_of((-3,)), ())
        self.assert_same(moments_of((5,)), ())
        self.assert_same(moments_of((1, 1)), ())
        self.assert_same(moments_of((0, 1)), ())
        self.assert_same(places_of((1, 0, 1)), ())
        self.assert_same(places_of(f=(2, -4, 2)), (((-1, 1), 1),))
        self.assert_same(moments_of(f=(0, 0, 2, -4, 2)), (((0, -1, 1), 2),))

    def test_known_zeros(self):
        rng = source(21)
        for _ in range(150):
            chosen = some_factors(rng, rng.randint(1, 4), 7)
            plain = times((1,), *chosen)
            zeros = known_zeros(chosen)
            f = times((rng.choice((-3, 1, 2)),), plain, rng.choice(chosen))
            self.assert_same(places_of(f), tuple((plain_curve(f), k + 1) for k in range(len(zeros))))
            ahead = len([zero for zero in zeros if zero <= 0])
            self.assert_same(moments_of(f), places_of(f)[ahead:])
            for place, zero in zip(places_of(f), zeros):
                self.assertIs(is_place(place), True)
                self.assert_same(ratio_against(place, (7, 5)), root_order(zero, Fraction(7, 5)))

    def test_ratio_place(self):
        self.assert_same(ratio_place((3, 2)), ((-3, 2), 1))
        self.assert_same(ratio_place((0, 1)), ((0, 1), 1))
        self.assert_same(ratio_place(one=(-5, 1)), ((5, 1), 1))

    def test_place_moved(self):
        self.assert_same(place_moved(ROOT, 3), ((7, -6, 1), 2))
        self.assert_same(place_moved(ROOT, 0), ROOT)
        self.assert_same(place_moved(place=((-1, 2), 1), n=-2), ((3, 2), 1))
        rng = source(22)
        for _ in range(40):
            place, zero = some_known_place(rng)
            n = rng.randint(-20, 20)
            moved = place_moved(place, n)
            self.assertIs(is_place(moved), True)
            for at in range(-5, 6):
                self.assertEqual(ratio_against(moved, (at + n, 1)), ratio_against(place, (at, 1)))
            self.assert_same(place_moved(moved, -n), place)


class TestOrder(BellCase):

    def test_by_hand(self):
        self.assert_same(place_order(((0, -2, 0, 1), 3), ROOT), 0)
        self.assert_same(place_order(one=ROOT, other=((-2, 0, 1), 1)), 1)
        self.assert_same(place_order(((-2, 0, 1), 1), ROOT), -1)
        self.assert_same(place_order(ROOT, ROOT), 0)
        self.assert_same(place_order(((-3, 2), 1), ROOT), 1)
        self.assert_same(place_order(((-1, 2), 1), ((-1, 0, 4), 2)), 0)
        self.assert_same(place_order(((-1, 0, 4), 2), ((-1, 2), 1)), 0)

    def test_known_places(self):
        rng = source(23)
        for _ in range(400):
            (one, first), (other, second) = some_known_place(rng), some_known_place(rng)
            self.assert_same(place_order(one, other), root_order(first, second))
            self.assert_same(place_order(other, one), root_order(second, first))
            two = (rng.randint(-3, 3), rng.randint(1, 2))
            if two[0] % 2 or two[1] == 1:
                self.assert_same(ratio_against(one, two), root_order(first, fraction(two)))

    def test_against_its_own_ends(self):
        self.assert_same(ratio_against(((-3, 2), 1), (3, 2)), 0)
        self.assert_same(ratio_against(((-1, 0, 4), 2), (1, 2)), 0)
        self.assert_same(ratio_against(((-1, 0, 4), 1), one=(1, 2)), -1)
        self.assert_same(ratio_against(place=ROOT, one=(-99, 1)), 1)
        for top in range(-30, 31):
            self.assert_same(ratio_against(ROOT, ratio(Fraction(top, 8))), sign(2 - Fraction(top, 8) ** 2)
                             if top > 0 else 1)

    def test_close_places(self):
        self.assert_same(place_order((CLOSE, 1), (CLOSE, 2)), -1)
        self.assert_same(place_order((CLOSE, 2), ((-1, 10 ** 5), 1)), 1)
        self.assert_same(place_order((CLOSE, 1), ((-1, 10 ** 5), 1)), -1)
        one, other = (-10 ** 12 + 1, 0, 0, 0, 0, 0, 0, 10 ** 11), (-10 ** 12 + 2, 0, 0, 0, 0, 0, 0, 10 ** 11)
        self.assert_same(place_order((plain_curve(one), 1), (plain_curve(other), 1)), 1)
        self.assert_same(self.assert_soon(2, place_order, (plain_curve(other), 1), (plain_curve(one), 1)), -1)

    def test_gathered(self):
        self.assert_same(gathered_places((ROOT, ((-1, 1), 1), ((0, -2, 0, 1), 3), ((-2, 0, 1), 1))),
                         ((3,), (1,), (0, 2)))
        self.assert_same(gathered_places([]), ())
        self.assert_same(gathered_places(places=[ROOT, ROOT, ROOT]), ((0, 1, 2),))
        rng = source(24)
        for _ in range(60):
            known = [some_known_place(rng) for _ in range(rng.randint(1, 8))]
            groups = self.assert_kept(gathered_places, [place for place, _ in known])
            self.assertEqual(groups, gathered_places(tuple(place for place, _ in known)))
            self.assertEqual(sorted(number for group in groups for number in group), list(range(len(known))))
            for group in groups:
                self.assert_same(group, tuple(sorted(group)))
                self.assertTrue(all(root_order(known[group[0]][1], known[number][1]) == 0 for number in group))
            for group, behind in zip(groups, groups[1:]):
                self.assertEqual(root_order(known[group[0]][1], known[behind[0]][1]), -1)


class TestSigns(BellCase):

    def test_by_hand(self):
        self.assert_same(place_sign((-3, 2), ROOT), -1)
        self.assert_same(place_sign((4, 0, -4, 0, 1), ROOT), 0)
        self.assert_same(place_sign((), ROOT), 0)
        self.assert_same(place_sign(f=(-7,), place=ROOT), -1)
        self.assert_same(place_sign((-1, 2), ((-1, 0, 4), 2)), 0)
        self.assert_same(place_sides((4, 0, -4, 0, 1), ROOT), (1, 1))
        self.assert_same(place_sides((), ROOT), (0, 0))
        self.assert_same(place_sides(f=(2, 0, -1), place=ROOT), (1, -1))
        self.assert_same(place_sides((-3, 2), ROOT), (-1, -1))
        self.assert_same(zero_times(f=(4, 0, -4, 0, 1), place=ROOT), 2)
        self.assert_same(zero_times((-3, 2), ROOT), 0)
        self.assert_same(zero_times((0, 0, 0, 0, -2), ((0, 1), 1)), 4)
        self.assert_same(place_sides((0, 0, 0, -2), ((0, 1), 1)), (1, -1))

    def test_known_places(self):
        rng = source(25)
        for _ in range(300):
            place, zero = some_known_place(rng)
            factor = [one for one in ROOTS if known_sign(one, zero) == 0][0]
            often = rng.randint(0, 2 if len(factor) > 3 else 3)
            rest = some_curve(rng, rng.randint(0, 2), rng.choice((3, 99)))
            f = times(rest, *[factor] * often)
            while known_sign(rest, zero) == 0:
                often, rest = often + 1, curve_slope(rest)
            self.assert_same(place_sign(f, place), known_sign(f, zero))
            self.assert_same(zero_times(f, place), often)
            slope = f
            for _ in range(often):
                slope = curve_slope(slope)
            behind = known_sign(slope, zero)
            self.assert_same(place_sides(f, place), (behind * (-1) ** often, behind))

    def test_near_signs(self):
        self.assert_same(place_sign((-141421356237, 10 ** 11), ROOT), 1)
        self.assert_same(place_sign((-141421356238, 10 ** 11), ROOT), -1)
        self.assert_same(place_sign((-1, 10 ** 5), (CLOSE, 1)), -1)
        self.assert_same(place_sign((-1, 10 ** 5), (CLOSE, 2)), 1)
        self.assert_same(place_sign(times((-1, 10 ** 5), (-1, 10 ** 5)), (CLOSE, 2)), 1)

    def test_place_in(self):
        self.assert_same(place_in((4, 0, -4, 0, 1), ROOT), ROOT)
        self.assert_same(place_in(f=(0, 4, 0, -2), place=ROOT), ((0, -2, 0, 1), 3))
        self.assertIsNone(place_in((-3, 2), ROOT))
        self.assertIsNone(place_in((5,), ROOT))
        self.assert_same(place_in((1, -2), HALF), ((-1, 2), 1))
        self.assert_same(place_in((1, -4, 4), HALF), ((-1, 2), 1))
        self.assert_same(place_in((-1, 0, 4), ((-1, 2), 1)), HALF)
        rng = source(26)
        for _ in range(150):
            place, zero = some_known_place(rng)
            chosen = some_factors(rng, 4, 8)
            f = times((rng.choice((-2, 1)),), *chosen)
            zeros = known_zeros(chosen)
            same = [at + 1 for at, other in enumerate(zeros) if root_order(zero, other) == 0]
            self.assert_same(place_in(f, place), (times((1,), *chosen), same[0]) if same else None)


class TestWholes(BellCase):

    def test_by_hand(self):
        self.assert_same(whole_times(ROOT, 1000), 1414)
        self.assert_same(whole_times(ROOT), 1)
        self.assert_same(whole_times(place=((-2, 0, 1), 1), n=10), -15)
        self.assert_same(whole_times(((-3, 2), 1), 2), 3)
        self.assert_same(whole_times(((-3, 2), 1), 3), 4)
        self.assert_same(whole_times(((-1, 0, 4), 2), 10 ** 9), 5 * 10 ** 8)
        self.assert_same(whole_times(((-4, 0, 1), 1)), -2)
        self.assert_same(whole_times(NEAR_ONE, 10 ** 9), 999999000)

    def test_known_places(self):
        rng = source(27)
        for _ in range(150):
            place, zero = some_known_place(rng)
            for n in (1, rng.randint(2, 9), 10, 1000, 10 ** 9):
                whole = whole_times(place, n)
                if isinstance(zero, Fraction):
                    self.assert_same(whole, n * zero.numerator // zero.denominator)
                else:
                    self.assertTrue(whole < n * zero < whole + 1)

    def test_ratio_of(self):
        self.assert_same(ratio_of(((-1, 0, 4), 2)), (1, 2))
        self.assertIsNone(ratio_of(ROOT))
        self.assert_same(ratio_of(place=((5, 1), 1)), (-5, 1))
        # 1 is what is looked at for the root of 2, too; it is another zero of the same curve.
        self.assertIsNone(ratio_of((times((-1, 1), (-2, 0, 1)), 3)))
        self.assert_same(ratio_of((times((-1, 1), (-2, 0, 1)), 2)), (1, 1))
        rng = source(28)
        for _ in range(150):
            place, zero = some_known_place(rng)
            self.assert_same(ratio_of(place), ratio(zero) if isinstance(zero, Fraction) else None)

    def test_simplest_by_hand(self):
        self.assert_same(simplest_between(ROOT, ratio_place((3, 2))), (10, 7))
        self.assert_same(simplest_between(), (0, 1))
        self.assert_same(simplest_between(None, None), (0, 1))
        self.assert_same(simplest_between(ROOT), (2, 1))
        self.assert_same(simplest_between(other=((-2, 0, 1), 1)), (-2, 1))
        self.assert_same(simplest_between(None, ((-4, 0, 1), 1)), (-3, 1))
        self.assert_same(simplest_between(((-4, 0, 1), 2), None), (3, 1))
        self.assertIsNone(simplest_between(ROOT, ROOT))
        self.assertIsNone(simplest_between(ROOT, ((0, -2, 0, 1), 3)))
        self.assertIsNone(simplest_between(one=ROOT, other=((-1, 1), 1)))
        self.assert_same(simplest_between((CLOSE, 1), (CLOSE, 2)), (1, 10 ** 5))
        # The simplest ratio nearby is the end itself.
        self.assert_same(simplest_between(((-1, 0, 4), 2), ((-3, 4), 1)), (2, 3))
        self.assert_same(simplest_between(((-1, 4), 1), ((-1, 0, 4), 2)), (1, 3))
        self.assert_same(simplest_between(((-1, 0, 4), 1), ((-1, 0, 9), 1)), (-2, 5))

    def test_simplest_between_far_places(self):
        far = (-(10 ** 12 - 1), 0, 1)
        self.assert_same(self.assert_soon(1, simplest_between, (far, 2)), (10 ** 6, 1))
        self.assert_same(self.assert_soon(1, simplest_between, None, (far, 1)), (-10 ** 6, 1))
        self.assert_same(self.assert_soon(1, simplest_between, (far, 2), ((-10 ** 6, 1), 1)), (2 * 10 ** 12 - 1, 2 * 10 ** 6))

    def test_simplest_between_ratios(self):
        rng = source(29)
        for _ in range(150):
            low, high = [ratio(Fraction(rng.randint(-30, 30), rng.randint(1, 12))) for _ in range(2)]
            places = [ratio_place(low), ratio_place(high)]
            # The same ratios as zeros of curves with other zeros besides.
            for at, one in enumerate((low, high)):
                if rng.random() < 0.5:
                    places[at] = place_in(times(places[at][0], (-7, 0, 1), (31, 1)), places[at])
            self.assert_same(simplest_between(*places), simplest_ratio(low, high))

    def test_simplest_between_known_places(self):
        rng = source(30)
        for _ in range(150):
            (one, first), (other, second) = some_known_place(rng), some_known_place(rng)
            simplest = simplest_between(one, other)
            if root_order(first, second) >= 0:
                self.assertIsNone(simplest)
                continue
            self.assertTrue(root_order(first, fraction(simplest)) < 0 < root_order(second, fraction(simplest)))
            for bottom in range(1, min(simplest[1], 60)):
                top = int(decimal(first) * bottom) - 2
                while root_order(first, Fraction(top, bottom)) >= 0:
                    top += 1
                self.assertTrue(root_order(Fraction(top, bottom), second) >= 0)

    def test_soon_at_the_limits(self):
        rng = source(31)
        for _ in range(12):
            f, g = [plain_curve(some_curve(rng, 7, 10 ** 12 - 1)) for _ in range(2)]
            for one, other in itertools.product(places_of(f), places_of(g)):
                self.assert_soon(1, place_order, one, other)
                self.assert_soon(1, simplest_between, one, other)
                self.assert_soon(1, whole_times, one, 10 ** 9)
                self.assert_soon(1, place_sides, times((-1, 1), g), one)
        self.assert_soon(2, gathered_places, [(CLOSE, at) for at in (1, 2, 3, 1, 2, 3, 1, 2)])


if __name__ == "__main__":
    unittest.main()
