"""What several tests need: any values, told errors, numbers by fractions, zeros that are known ahead."""

import itertools
import random
import time
import unittest
from decimal import Decimal, localcontext
from fractions import Fraction

from curvebells.halls import Hall
from curvebells.handles import Handle
from curvebells.rules import Ruled
from curvebells.stairs import Stair
from curvebells.tables import Table
from curvebells.wishes import Wish


def deep_list(depth):
    value = []
    for _ in range(depth):
        value = [value]
    return value


SMALL_HALL = Hall([("a", (("b", (0, 1)),))], [("c", "at", ("a", 1), "any")])

ANY_VALUES = (
    0, 1, -1, 2, 10 ** 12, True, False, None, "", "a", "cat", "0", "-3/2", "1 2", "above a 0", (), [],
    (1, 2), [1, 2], (True, 2), (1, True), (1, 0), (0, 2), (2, 4), (1, -2), (1, 2, 3), ("a",), ["a"], ((),), ([],),
    (None,), [None], ("1", "2"), (("not", 0),), (("rises", "a"),), [("rises", "a")], ((1, 2), (3, 4)),
    Stair([("rises", "a")]), Wish(1, (), ()), (Stair([("rises", "a")]),), deep_list(12), ((0, 1), [1, 2]),
    SMALL_HALL, (SMALL_HALL, 1), Table([(0, 1)]), Ruled(SMALL_HALL), Handle(SMALL_HALL, "a", 1), [[[]]], ((0, 1), 1),
    ((-1, 1), 1), ((-2, 0, 1), 2), (((-1, 1), 1),), [((-1, 1), 1)], ((0, 1), None, ()), ("less", 0, 0), (0, (), ()),
    (("rises", []),), ([], "a"), ((0, ["a"], ["b"], 0),), "\n", "a\n", "rises a", "\u0663", "\u00e9", "\u00b2",
)


class BellCase(unittest.TestCase):
    """A test case that can tell an error's class and what it keeps."""

    maxDiff = None

    def assert_error(self, error, told, call, *arguments, **named):
        """The call raises just this class of error, which keeps these values under these names."""
        before = picture((arguments, named))
        with self.assertRaises(error) as caught:
            call(*arguments, **named)
        self.assertIs(caught.exception.__class__, error)
        for name, value in told.items():
            kept = getattr(caught.exception, name)
            self.assertEqual(kept, value, arguments)
            self.assertIs(kept.__class__, value.__class__, arguments)
        self.assertEqual(picture((arguments, named)), before)

    def assert_soon(self, seconds, call, *arguments):
        """What the call returns, if it does within so many seconds of this machine's work."""
        begin = time.process_time()
        value = call(*arguments)
        self.assertLess(time.process_time() - begin, seconds, call)
        return value

    def assert_kept(self, call, *arguments):
        """What the call returns, if it leaves its arguments as they were and returns the same a second time."""
        before = picture(arguments)
        value = call(*arguments)
        self.assertEqual(picture(arguments), before)
        self.assertEqual(picture(call(*arguments)), picture(value))
        return value

    def assert_same(self, value, wanted):
        """Both are equal, and of like kinds within: no list for a tuple, no bool for an integer."""
        self.assertEqual(value, wanted)
        self.assertEqual(shape_of(value), shape_of(wanted))


def shape_of(value):
    """The kinds of a value, within too."""
    if isinstance(value, (list, tuple)):
        return (value.__class__.__name__, [shape_of(one) for one in value])
    return value.__class__.__name__


def picture(value):
    """A value by its kinds and parts, objects by their attributes."""
    if isinstance(value, (list, tuple)):
        return (value.__class__.__name__, [picture(one) for one in value])
    if isinstance(value, dict):
        return ("dict", [(name, picture(one)) for name, one in value.items()])
    if value.__class__.__module__.startswith("curvebells."):
        return (value.__class__.__name__, picture(vars(value)))
    return (value.__class__.__name__, value)


def fraction(one):
    """A ratio as Python's fraction."""
    return Fraction(one[0], one[1])


def ratio(number):
    """Python's fraction as a ratio."""
    number = Fraction(number)
    return (number.numerator, number.denominator)


def worth(f, number):
    """What a curve is at a fraction, by its powers."""
    return sum((a * number ** power for power, a in enumerate(f)), Fraction(0))


def sign(number):
    return (number > 0) - (number < 0)


def times(*curves):
    """The product of curves, by the sums of their powers."""
    product = {0: 1}
    for curve in curves:
        behind = {}
        for (i, a), (j, b) in itertools.product(product.items(), enumerate(curve)):
            behind[i + j] = behind.get(i + j, 0) + a * b
        product = behind
    integers = [product.get(power, 0) for power in range(max(product, default=-1) + 1)]
    while integers and integers[-1] == 0:
        integers.pop()
    return tuple(integers)


def some_curve(rng, degree, size):
    """A curve of just this degree by a random source of the test's own."""
    integers = [rng.randint(-size, size) for _ in range(degree)]
    return tuple(integers) + (rng.choice((-1, 1)) * rng.randint(1, size),)


def some_ratio(rng, size, bottom):
    return ratio(Fraction(rng.randint(-size, size), rng.randint(1, bottom)))


def source(seed):
    return random.Random(seed)


def near_roots():
    """Plain curves without common zeros, and their real zeros: as fractions where they are, else by 80 figures."""
    with localcontext() as context:
        context.prec = 80
        two, three, five = Decimal(2).sqrt(), Decimal(3).sqrt(), Decimal(5).sqrt()
        cube = Decimal(2) ** (Decimal(1) / Decimal(3))
        return {
            (0, 1): [Fraction(0)],
            (-1, 1): [Fraction(1)],
            (3, 2): [Fraction(-3, 2)],
            (-7, 5): [Fraction(7, 5)],
            (-1, 3): [Fraction(1, 3)],
            (-41, 29): [Fraction(41, 29)],
            (-99, 70): [Fraction(99, 70)],
            (-2, 0, 1): [-two, two],
            (-3, 0, 1): [-three, three],
            (-1, -1, 1): [(1 - five) / 2, (1 + five) / 2],
            (-1, 1, 1): [(-1 - five) / 2, (-1 + five) / 2],
            (-1, 0, 2): [-1 / two, 1 / two],
            (-1, -2, 1): [1 - two, 1 + two],
            (-2, 0, 0, 1): [cube],
            (1, 0, 1): [],
            (2, 1, 1): [],
        }


ROOTS = near_roots()

# From 1 to 2 both products have one change, but what they share, with complex zeros nearby, has three.
SHARED = times((-19, 10), (7, -9, 3))
WIDE = (times(SHARED, (-3, 1), (-5, 2), (0, 1), (-1, 2)), 3)
OTHER = (times(SHARED, (-4, 1), (1, 1), (-2, 3), (-3, 5)), 4)


def root_order(one, other):
    """The order of two known zeros: -1, 0 or 1."""
    with localcontext() as context:
        context.prec = 80
        apart = decimal(one) - decimal(other)
        return 0 if abs(apart) < Decimal(10) ** -70 else sign(apart)


def decimal(number):
    """A fraction, or what has 80 figures already, by 80 figures."""
    with localcontext() as context:
        context.prec = 80
        if isinstance(number, Decimal):
            return number
        number = Fraction(number)
        return Decimal(number.numerator) / Decimal(number.denominator)


def known_zeros(chosen):
    """The real zeros of a product of such curves, ascending, each once; a row of its own for each."""
    zeros = [zero for curve in chosen for zero in ROOTS[curve]]
    return sorted(zeros, key=decimal)


def some_factors(rng, most, degree):
    """Some of these curves whose degrees together are at most this, at least one."""
    chosen = []
    for curve in rng.sample(list(ROOTS), most):
        if sum(len(one) - 1 for one in chosen) + len(curve) - 1 <= degree:
            chosen.append(curve)
    return chosen


def some_known_place(rng, degree=7):
    """A place of a plain curve of at most this degree, and the number that it is."""
    while True:
        chosen = some_factors(rng, rng.randint(1, 4), degree)
        zeros = known_zeros(chosen)
        if zeros:
            number = rng.randint(1, len(zeros))
            return (times((1,), *chosen), number), zeros[number - 1]


def known_sign(f, number):
    """The sign of a curve at a known zero."""
    with localcontext() as context:
        context.prec = 80
        total = Decimal(0)
        for a in reversed(f):
            total = total * decimal(number) + a
        return 0 if abs(total) < Decimal(10) ** -50 else sign(total)
