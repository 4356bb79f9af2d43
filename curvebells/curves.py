"""Curves: tuples of integers, that of the power 0 first, the last one not 0."""

from curvebells.errors import InvalidCurve, InvalidText
from curvebells.ratios import ratio_by
from curvebells.values import is_integer, is_sequence, read_integer, sign_of


def curve_of(values):
    """The curve of a sequence of integers; any value."""
    if not is_sequence(values):
        raise InvalidCurve(-1)
    for at, value in enumerate(values):
        if not is_integer(value):
            raise InvalidCurve(at)
    return without_end(values)


def without_end(integers):
    """The tuple of some integers without the zeros at its end."""
    length = len(integers)
    while length > 0 and integers[length - 1] == 0:
        length -= 1
    return tuple(integers[:length])


def is_curve(value):
    """Whether any value is a curve."""
    if not isinstance(value, tuple) or not all([is_integer(integer) for integer in value]):
        return False
    return len(value) == 0 or value[-1] != 0


def curve_plus(f, g):
    """The sum of two curves."""
    if len(f) < len(g):
        f, g = g, f
    return without_end([a + b for a, b in zip(f, g)] + list(f[len(g):]))


def curve_scaled(f, n):
    """An integer times a curve."""
    return without_end([n * a for a in f])


def curve_minus(f, g):
    """The one curve less the other."""
    return curve_plus(f, curve_scaled(g, -1))


def curve_times(f, g):
    """The product of two curves."""
    if len(f) == 0 or len(g) == 0:
        return ()
    product = [0] * (len(f) + len(g) - 1)
    for i, a in enumerate(f):
        for j, b in enumerate(g):
            product[i + j] += a * b
    return tuple(product)


def curve_slope(f):
    """The slope of a curve."""
    return tuple([power * a for power, a in enumerate(f)][1:])


def curve_moved(f, n):
    """The curve that is at each t what f is at t + n."""
    moved = list(f)
    for begin in range(len(moved) - 1):
        for at in range(len(moved) - 2, begin - 1, -1):
            moved[at] += n * moved[at + 1]
    return tuple(moved)


def curve_after(f, g):
    """The curve that is at each t what f is at the number that g tells."""
    behind = ()
    for a in reversed(f):
        behind = curve_plus(curve_times(behind, g), without_end([a]))
    return behind


def worth_parts(f, one):
    """Two integers, the second one above 0, of which what f is at a ratio is the ratio."""
    top, bottom = one
    worth = 0
    power = 1
    for at in range(len(f) - 1, -1, -1):
        worth = worth * top + f[at] * power
        if at > 0:
            power *= bottom
    return (worth, power)


def curve_worth(f, one):
    """The ratio that a curve is at a ratio."""
    worth, power = worth_parts(f, one)
    return ratio_by(worth, power)


def curve_sign(f, one):
    """The sign of a curve at a ratio."""
    worth, _ = worth_parts(f, one)
    return sign_of(worth)


def first_sign(f):
    """The sign of a curve right behind 0."""
    for a in f:
        if a != 0:
            return sign_of(a)
    return 0


def last_sign(f):
    """The sign of a curve behind all its zeros."""
    if len(f) == 0:
        return 0
    return sign_of(f[-1])


def curve_text(f):
    """The integers of a curve, separated by single blanks."""
    if len(f) == 0:
        return "0"
    return " ".join([str(a) for a in f])


def read_curve(text):
    """The curve of a string as curve_text writes it; any value."""
    if not isinstance(text, str):
        raise InvalidText(0)
    integers = [read_integer(word) for word in text.split(" ")]
    for at, integer in enumerate(integers):
        if integer is None:
            raise InvalidText(at)
    if len(integers) > 1 and integers[-1] == 0:
        raise InvalidText(len(integers) - 1)
    return without_end(integers)
