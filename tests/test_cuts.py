"""Promises [7], [8] and [9]: divisors, changes of signs, cuts."""

import itertools
import unittest
from fractions import Fraction
from math import comb, gcd

from curvebells.curves import is_curve
from curvebells.cuts import (
    common_curve, count_zeros, curve_parts, cut_count, cuts_hold, cuts_of, plain_curve, primitive_curve,
    quotient_curve, sign_changes,
)
from tests.helpers import ANY_VALUES, BellCase, fraction, ratio, sign, some_curve, source, times

# Plain curves with the zeros that they have, in their order (None: no rational one is asked for).
LINEAR = {(0, 1): 0, (-1, 1): 1, (1, 1): -1, (-1, 2): Fraction(1, 2), (4, 3): Fraction(-4, 3), (-9, 1): 9}
NO_ZEROS = [(1, 0, 1), (2, -2, 1), (1, 1, 1), (101, -20, 1)]


def is_plain(f):
    """Whether a curve is plain, by fractions."""
    return len(f) > 1 and gcd(*f) == 1 and f[-1] > 0 and len(euclid(f, slope(f))) == 1


def slope(f):
    return tuple(power * a for power, a in enumerate(f))[1:]


def euclid(f, g):
    """The greatest common divisor by fractions, its last number 1."""
    f, g = [Fraction(a) for a in f], [Fraction(a) for a in g]
    while g:
        while len(f) >= len(g):
            by = f[-1] / g[-1]
            for at in range(len(g)):
                f[len(f) - len(g) + at] -= by * g[at]
            f.pop()
            while f and f[-1] == 0:
                f.pop()
        f, g = g, f
    return tuple(a / f[-1] for a in f) if f else ()


def products(seed, many):
    """Curves by their plain factors, each with how often it stands in them."""
    rng = source(seed)
    factors = list(LINEAR) + NO_ZEROS + [(-2, 0, 1), (-3, 1, 0, 1)]
    for _ in range(many):
        chosen = {factor: rng.randint(1, 3) for factor in rng.sample(factors, rng.randint(0, 3))}
        yield rng.choice((-6, -1, 1, 4)), chosen


def multiplied(by, chosen):
    return times((by,), *[factor for factor, often in chosen.items() for _ in range(often)])


class TestDivisors(BellCase):

    def test_primitive(self):
        self.assert_same(primitive_curve((2, 0, -4)), (-1, 0, 2))
        self.assert_same(primitive_curve((0, 6)), (0, 1))
        self.assert_same(primitive_curve((-7,)), (1,))
        self.assert_same(primitive_curve((5,)), (1,))
        self.assert_same(primitive_curve((3, 2)), (3, 2))
        self.assert_same(primitive_curve(f=(-6, 9, -3)), (2, -3, 1))

    def test_common_of_nothing(self):
        self.assert_same(common_curve((), ()), ())
        self.assert_same(common_curve((), (4, -2)), (-2, 1))
        self.assert_same(common_curve((4, -2), ()), (-2, 1))
        self.assert_same(common_curve((6,), (4,)), (1,))
        self.assert_same(common_curve((6,), ()), (1,))
        self.assert_same(common_curve((6,), (3, 3)), (1,))
        self.assert_same(common_curve((-1, 0, 1), g=(2, 2)), (1, 1))

    def test_common_curve(self):
        rng = source(1)
        for _ in range(120):
            one, other, both = [some_curve(rng, rng.randint(0, 3), 9) for _ in range(3)]
            f, g = times(one, both), times(other, both)
            shared = common_curve(f, g)
            self.assertTrue(is_curve(shared))
            self.assertTrue(gcd(*shared) == 1 and shared[-1] > 0)
            self.assertEqual(tuple(Fraction(a, shared[-1]) for a in shared), euclid(f, g))
            self.assert_same(common_curve(g, f), shared)
            self.assertIsNotNone(quotient_curve(f, shared))

    def test_high_degree(self):
        rng = source(2)
        f, g = some_curve(rng, 8, 10 ** 12 - 1), some_curve(rng, 8, 10 ** 12 - 1)
        self.assert_same(common_curve(f, g), (1,))
        self.assert_same(common_curve(f, f), primitive_curve(f))

    def test_quotient(self):
        self.assert_same(quotient_curve((), (1, 2)), ())
        self.assert_same(quotient_curve((), (3,)), ())
        self.assert_same(quotient_curve((4, 6), (2,)), (2, 3))
        self.assertIsNone(quotient_curve((4, 5), (2,)))
        self.assertIsNone(quotient_curve((1, 1), (2, 2)))
        self.assertIsNone(quotient_curve((1,), (0, 1)))
        self.assertIsNone(quotient_curve((1, 0, 1), (1, 1)))
        self.assertIsNone(quotient_curve((1, 1), (1, 1, 1)))
        self.assert_same(quotient_curve((2, 2), (-1, -1)), (-2,))
        rng = source(3)
        for _ in range(150):
            f, g = some_curve(rng, rng.randint(0, 4), 99), some_curve(rng, rng.randint(0, 4), 99)
            self.assert_same(quotient_curve(times(f, g), g), f)
            moved = times(f, g)
            moved = (moved[0] + 1,) + moved[1:]
            if len(g) > 1 and moved[-1] != 0:
                self.assertIsNone(quotient_curve(moved, g))

    def test_plain(self):
        self.assert_same(plain_curve((0, 2, -4, 2)), (0, -1, 1))
        for f in ((1,), (-8,), (3,)):
            self.assert_same(plain_curve(f), (1,))
        self.assert_same(plain_curve((1, 0, 2, 0, 1)), (1, 0, 1))
        self.assert_same(plain_curve((0, 0, 0, -5)), (0, 1))
        for by, chosen in products(4, 120):
            plain = plain_curve(multiplied(by, chosen))
            self.assert_same(plain, times((1,), *chosen))
            self.assertTrue(is_plain(plain) or plain == (1,))

    def test_parts(self):
        self.assert_same(curve_parts((0, 2, -4, 2)), ((1, (0, 1)), (2, (-1, 1))))
        self.assert_same(curve_parts((5,)), ())
        self.assert_same(curve_parts((0, 0, 0, -5)), ((3, (0, 1)),))
        self.assert_same(curve_parts((1, 0, 2, 0, 1)), ((2, (1, 0, 1)),))
        for by, chosen in products(5, 120):
            wanted = []
            for often in (1, 2, 3):
                part = times((1,), *[factor for factor, many in chosen.items() if many == often])
                if len(part) > 1:
                    wanted.append((often, part))
            self.assert_same(curve_parts(multiplied(by, chosen)), tuple(wanted))


def brute_changes(f, low, high):
    """The changes by powers of two sums, told with fractions."""
    degree = len(f) - 1
    coefficients = [Fraction(0)] * (degree + 1)
    for power, a in enumerate(f):
        if low is not None and high is not None:
            term = spread_power(fraction(low), fraction(high), power)
            rest = spread_power(Fraction(1), Fraction(1), degree - power)
        elif high is None:
            term, rest = spread_power(fraction(low), Fraction(1), power), [Fraction(1)]
        else:
            term, rest = spread_power(fraction(high), Fraction(-1), power), [Fraction(1)]
        for (i, b), (j, c) in itertools.product(enumerate(term), enumerate(rest)):
            coefficients[i + j] += a * b * c
    signs = [sign(one) for one in coefficients if one != 0]
    return sum(1 for one, other in zip(signs, signs[1:]) if one != other)


def spread_power(a, b, power):
    """The coefficients of (a + b x) to a power."""
    return [comb(power, k) * a ** (power - k) * b ** k for k in range(power + 1)]


SPANS = [
    ((0, 1), None), (None, (0, 1)), ((-3, 2), None), (None, (5, 3)), ((0, 1), (1, 1)), ((-1, 1), (1, 1)),
    ((1, 3), (1, 2)), ((-20, 1), (20, 1)), ((-7, 2), (-1, 6)), ((1, 999999), (20, 1)),
]


class TestChanges(BellCase):

    def test_by_hand(self):
        self.assert_same(sign_changes((-2, 0, 1), (1, 1), (2, 1)), 1)
        self.assert_same(sign_changes((2, -2, 1), (0, 1), None), 2)
        self.assert_same(sign_changes((2, -2, 1), (0, 1), (1, 1)), 0)
        self.assert_same(sign_changes((2, -2, 1), (1, 1), None), 0)
        self.assert_same(sign_changes(f=(-2, 0, 1), low=None, high=(1, 1)), 1)

    def test_constants(self):
        for low, high in SPANS:
            self.assert_same(sign_changes((3,), low, high), 0)
            self.assert_same(sign_changes((-3,), low, high), 0)

    def test_zeros_at_the_ends_and_within_coefficients(self):
        self.assert_same(sign_changes((0, 1), (0, 1), (1, 1)), 0)
        self.assert_same(sign_changes((0, 1), (-1, 1), (0, 1)), 0)
        self.assert_same(sign_changes((0, 0, -1, 1), (0, 1), None), 1)
        self.assert_same(sign_changes((1, -2, 1), (0, 1), (1, 1)), 0)
        self.assert_same(sign_changes((1, -2, 1), (0, 1), (2, 1)), 2)
        self.assert_same(sign_changes((-1, 0, 0, 0, 1), (0, 1), None), 1)

    def test_by_fractions(self):
        rng = source(6)
        for _ in range(60):
            f = some_curve(rng, rng.randint(0, 8), rng.choice((3, 99, 10 ** 12 - 1)))
            for low, high in SPANS:
                self.assert_same(sign_changes(f, low, high), brute_changes(f, low, high))

    def test_zeros_are_counted_or_even_more(self):
        for by, chosen in products(7, 60):
            chosen = {factor: often for factor, often in chosen.items() if factor in LINEAR or factor in NO_ZEROS}
            f = multiplied(by, chosen)
            for low, high in SPANS:
                zeros = sum(often for factor, often in chosen.items()
                            if factor in LINEAR and is_within(LINEAR[factor], low, high))
                changes = sign_changes(f, low, high)
                self.assertTrue(changes >= zeros and (changes - zeros) % 2 == 0)


def is_within(number, low, high):
    return (low is None or fraction(low) < number) and (high is None or number < fraction(high))


class TestCuts(BellCase):

    def test_hold_by_hand(self):
        f = (2, -2, 1)
        self.assertIs(cuts_hold(f, (0, 1), None, ((1, 1),)), True)
        self.assertIs(cuts_hold(f, (0, 1), None, ()), False)
        self.assertIs(cuts_hold(f=f, low=None, high=(0, 1), value=()), True)
        self.assertIs(cuts_hold((-2, 0, 1), None, None, ((0, 1),)), True)
        self.assertIs(cuts_hold((-2, 0, 1), None, None, ((0, 1), (9, 1))), True)
        self.assertIs(cuts_hold((-2, 0, 1), None, None, ((-3, 1), (9, 1))), False)

    def test_whole_line_needs_one(self):
        for f in ((1,), (0, 1), (-2, 0, 1)):
            self.assertIs(cuts_hold(f, None, None, ()), False)
        self.assertIs(cuts_hold((1,), None, None, ((7, 3),)), True)
        self.assertIs(cuts_hold((0, 1), None, None, ((7, 3),)), True)

    def test_double_zero(self):
        f = (1, -2, 1)
        self.assertIs(cuts_hold(f, (0, 1), (2, 1), ()), False)
        self.assertIs(cuts_hold(f, (0, 1), (2, 1), ((1, 1),)), True)
        self.assertIs(cuts_hold(f, (0, 1), (2, 1), ((999, 1000), (1001, 1000))), False)
        self.assert_same(cut_count(f, (0, 1), (2, 1), ((1, 1),)), 1)

    def test_wrong_values(self):
        f, low, high = (-1, 1), (0, 1), (2, 1)
        self.assertIs(cuts_hold(f, low, high, ((1, 2), (1, 1))), True)
        for wrong in ([], [(1, 1)], ([1, 1],), ((1, 1), (1, 2)), ((1, 1), (1, 1)), ((0, 1),), ((2, 1),), ((3, 1),),
                      ((-1, 1),), ((2, 2),), ((1, 0),), ((1, -1),), ((True, 1),), ((1, True),), (1,), ("1",), "1", 1,
                      None, True, False, (None,), ((1, 1), None), (((1, 1),),), ((1, 2), (1, 1), (2, 1)),
                      ((0, 1), (1, 1))):
            self.assertIs(cuts_hold(f, low, high, wrong), False, wrong)
        for low, high, wrong in ((None, (0, 1), ((0, 1),)), (None, (0, 1), ((1, 1),)), ((0, 1), None, ((0, 1),)),
                                 ((0, 1), None, ((-1, 1),)), (None, None, ((1, 1), (0, 1)))):
            self.assertIs(cuts_hold(f, low, high, wrong), False)

    def test_any_value(self):
        for value in ANY_VALUES:
            self.assertIs(cuts_hold((-1, 1), (0, 1), (2, 1), value), value in ((), ((1, 2), (3, 4))))
            self.assertIs(cuts_hold((1,), None, None, value), value == ((1, 2), (3, 4)))

    def test_count(self):
        f = times((0, 1), (-1, 1), (-2, 1))
        self.assert_same(cut_count(f, None, None, ((0, 1), (3, 2))), 3)
        self.assert_same(cut_count(f, (0, 1), None, ((3, 2),)), 2)
        self.assert_same(cut_count(f, (0, 1), (2, 1), ((1, 1),)), 1)
        self.assert_same(cut_count(f, (0, 1), (2, 1), ()), 1)
        self.assert_same(cut_count(f=f, low=(2, 1), high=None, cuts=()), 0)
        self.assert_same(cut_count((5,), None, None, ((0, 1),)), 0)

    def check_cuts(self, f, low, high, wanted):
        cuts = cuts_of(f, low, high)
        self.assertIs(cuts.__class__, tuple)
        self.assertIs(cuts_hold(f, low, high, cuts), True)
        self.assert_same(cut_count(f, low, high, cuts), wanted)
        self.assert_same(cuts_of(high=high, f=f, low=low), cuts)

    def test_cuts_of(self):
        for _, chosen in products(8, 80):
            chosen = {factor: 1 for factor in chosen if factor in LINEAR or factor in NO_ZEROS}
            f = times((1,), *chosen)
            for low, high in SPANS + [(None, None)]:
                zeros = [one for one in chosen if one in LINEAR and is_within(LINEAR[one], low, high)]
                self.check_cuts(f, low, high, len(zeros))

    def test_cuts_of_a_constant(self):
        for low, high in SPANS + [(None, None)]:
            self.check_cuts((1,), low, high, 0)
        self.assertIs(cuts_hold((1,), None, None, cuts_of((1,))), True)

    def test_zeros_that_lie_close(self):
        near = times((-10 ** 6, 10 ** 6 + 1), (-10 ** 6, 10 ** 6 + 2))
        self.check_cuts(near, None, None, 2)
        self.check_cuts(near, (0, 1), (1, 1), 2)
        self.check_cuts(near, (1, 1), (20, 1), 0)
        self.check_cuts((-2 * 1, 4 * 10 ** 5, -2 * 10 ** 10, 0, 0, 0, 0, 0, 1), None, None, 4)
        self.check_cuts((2 * 1, -4 * 10 ** 5, 2 * 10 ** 10, 0, 0, 0, 0, 0, 1), None, None, 0)

    def test_high_degree(self):
        f = times(*[(-n, 1) for n in range(1, 9)])
        self.check_cuts(f, None, None, 8)
        self.check_cuts(f, (1, 1), (8, 1), 6)
        self.check_cuts(f, (1, 2), (20, 1), 8)
        far = times((-10 ** 11, 1), (1, 10 ** 11))
        self.check_cuts(far, None, None, 2)
        self.check_cuts(far, (0, 1), None, 1)

    def test_count_zeros(self):
        self.assert_same(count_zeros((7,)), 0)
        self.assert_same(count_zeros((1, -2, 1)), 1)
        self.assert_same(count_zeros((1, -2, 1), (1, 1)), 0)
        self.assert_same(count_zeros((1, -2, 1), None, (1, 1)), 0)
        self.assert_same(count_zeros((1, -2, 1), high=(2, 1)), 1)
        self.assert_same(count_zeros((1, 0, 2, 0, 1)), 0)
        self.assert_same(count_zeros((0, 0, 0, -5)), 1)
        for by, chosen in products(9, 80):
            chosen = {factor: often for factor, often in chosen.items() if factor in LINEAR or factor in NO_ZEROS}
            f = multiplied(by, chosen)
            for low, high in SPANS + [(None, None)]:
                zeros = [one for one in chosen if one in LINEAR and is_within(LINEAR[one], low, high)]
                self.assert_same(count_zeros(f, low, high), len(zeros))

    def test_count_zeros_by_changes_of_worths(self):
        rng = source(10)
        for _ in range(60):
            f = some_curve(rng, rng.randint(1, 8), 10 ** rng.randint(1, 12) - 1)
            cuts = [ratio(Fraction(k, 7)) for k in range(-20, 21)]
            parts = [count_zeros(f, one, other) for one, other in zip([None] + cuts, cuts + [None])]
            at_cuts = [cut for cut in cuts if sum(a * fraction(cut) ** k for k, a in enumerate(f)) == 0]
            self.assertEqual(count_zeros(f), sum(parts) + len(at_cuts))
            if plain_curve(f) == primitive_curve(f):
                self.assertEqual((len(f) - 1 - count_zeros(f)) % 2, 0)


if __name__ == "__main__":
    unittest.main()
