"""What several tests need: any values, told errors, numbers by fractions."""

import copy
import itertools
import random
import unittest
from fractions import Fraction

from curvebells.stairs import Stair
from curvebells.wishes import Wish


def deep_list(depth):
    value = []
    for _ in range(depth):
        value = [value]
    return value


ANY_VALUES = (
    0, 1, -1, 2, 10 ** 12, True, False, None, "", "a", "cat", "0", "-3/2", "1 2", "above a 0", (), [],
    (1, 2), [1, 2], (True, 2), (1, True), (1, 0), (0, 2), (2, 4), (1, -2), (1, 2, 3), ("a",), ["a"], ((),), ([],),
    (None,), [None], ("1", "2"), (("not", 0),), (("rises", "a"),), [("rises", "a")], ((1, 2), (3, 4)),
    Stair([("rises", "a")]), Wish(1, (), ()), (Stair([("rises", "a")]),), deep_list(12), ((0, 1), [1, 2]),
    (("rises", []),), ([], "a"), ((0, ["a"], ["b"], 0),), "\n", "a\n", "rises a", "\u0663", "\u00e9", "\u00b2",
)


class BellCase(unittest.TestCase):
    """A test case that can tell an error's class and what it keeps."""

    maxDiff = None

    def assert_error(self, error, told, call, *arguments, **named):
        """The call raises just this class of error, which keeps these values under these names."""
        before = copy.deepcopy((arguments, named))
        with self.assertRaises(error) as caught:
            call(*arguments, **named)
        self.assertIs(caught.exception.__class__, error)
        for name, value in told.items():
            kept = getattr(caught.exception, name)
            self.assertEqual(kept, value, arguments)
            self.assertIs(kept.__class__, value.__class__, arguments)
        self.assertEqual((arguments, named), before)

    def assert_same(self, value, wanted):
        """Both are equal, and of like kinds within: no list for a tuple, no bool for an integer."""
        self.assertEqual(value, wanted)
        self.assertEqual(shape_of(value), shape_of(wanted))


def shape_of(value):
    """The kinds of a value, within too."""
    if isinstance(value, (list, tuple)):
        return (value.__class__.__name__, [shape_of(one) for one in value])
    return value.__class__.__name__


def fraction(one):
    """A ratio as Python's fraction."""
    return Fraction(one[0], one[1])


def ratio(number):
    """Python's fraction as a ratio."""
    number = Fraction(number)
    return (number.numerator, number.denominator)


def worth(f, number):
    """What a curve is at a fraction, by its powers."""
    return sum((a * number ** power for power, a in enumerate(f)), Fraction(0))


def sign(number):
    return (number > 0) - (number < 0)


def times(*curves):
    """The product of curves, by the sums of their powers."""
    product = {0: 1}
    for curve in curves:
        behind = {}
        for (i, a), (j, b) in itertools.product(product.items(), enumerate(curve)):
            behind[i + j] = behind.get(i + j, 0) + a * b
        product = behind
    integers = [product.get(power, 0) for power in range(max(product, default=-1) + 1)]
    while integers and integers[-1] == 0:
        integers.pop()
    return tuple(integers)


def some_curve(rng, degree, size):
    """A curve of just this degree by a random source of the test's own."""
    integers = [rng.randint(-size, size) for _ in range(degree)]
    return tuple(integers) + (rng.choice((-1, 1)) * rng.randint(1, size),)


def some_ratio(rng, size, bottom):
    return ratio(Fraction(rng.randint(-size, size), rng.randint(1, bottom)))


def source(seed):
    return random.Random(seed)
