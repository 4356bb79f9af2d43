"""Ratios: tuples (top, bottom) without a common divisor, the bottom above 0."""

from math import gcd

from curvebells.errors import InvalidText
from curvebells.values import is_integer, read_integer, sign_of


def ratio_by(top, bottom=1):
    """The ratio of two integers, the second one not 0."""
    shared = gcd(top, bottom)
    if bottom < 0:
        shared = -shared
    return (top // shared, bottom // shared)


def is_ratio(value):
    """Whether any value is a ratio."""
    if not isinstance(value, tuple) or len(value) != 2:
        return False
    top, bottom = value
    if not is_integer(top) or not is_integer(bottom):
        return False
    return bottom > 0 and gcd(top, bottom) == 1


def ratio_order(one, other):
    """-1, 0 or 1, as the one is less than the other, equal to it, or greater."""
    return sign_of(one[0] * other[1] - other[0] * one[1])


def ratio_plus(one, other):
    """The sum of two ratios."""
    return ratio_by(one[0] * other[1] + other[0] * one[1], one[1] * other[1])


def ratio_minus(one, other):
    """The one ratio less the other."""
    return ratio_by(one[0] * other[1] - other[0] * one[1], one[1] * other[1])


def ratio_times(one, other):
    """The product of two ratios."""
    return ratio_by(one[0] * other[0], one[1] * other[1])


def ratio_over(one, other):
    """The one ratio divided by the other, which is not 0."""
    return ratio_by(one[0] * other[1], one[1] * other[0])


def middle_ratio(one, other):
    """The ratio midway between two."""
    return ratio_by(one[0] * other[1] + other[0] * one[1], 2 * one[1] * other[1])


def ratio_text(one):
    """The string of a ratio: 3 or -3/2."""
    top, bottom = one
    if bottom == 1:
        return str(top)
    return f"{top}/{bottom}"


def read_ratio(text):
    """The ratio of a string as ratio_text writes it; any value."""
    if not isinstance(text, str):
        raise InvalidText(0)
    integers = [read_integer(word) for word in text.split("/")]
    if len(integers) > 2 or None in integers:
        raise InvalidText(0)
    if len(integers) == 1:
        return (integers[0], 1)
    one = (integers[0], integers[1])
    if one[1] == 1 or not is_ratio(one):
        raise InvalidText(0)
    return one


def simplest_ratio(low=None, high=None):
    """The ratio strictly between two with the least bottom, then the top of the least size, or None."""
    if low is not None and high is not None and ratio_order(low, high) >= 0:
        return None
    if (low is None or low[0] < 0) and (high is None or high[0] > 0):
        return (0, 1)
    if high is None or high[0] > 0:
        return simplest_above(low, high)
    top, bottom = simplest_above(less_ratio(high), None if low is None else less_ratio(low))
    return (-top, bottom)


def less_ratio(one):
    """A ratio with the other sign."""
    return (-one[0], one[1])


def simplest_above(low, high):
    """The simplest ratio strictly between two, the low one from 0 on; high may be None."""
    wholes = []
    whole = low[0] // low[1]
    # As long as no integer lies between, both have one whole part, and what is behind it is turned over.
    while high is not None and (whole + 1) * high[1] >= high[0]:
        wholes.append(whole)
        low, high = turned_ratio(high, whole), turned_ratio(low, whole)
        whole = low[0] // low[1]
    top, bottom = whole + 1, 1
    for whole in reversed(wholes):
        top, bottom = whole * top + bottom, top
    return (top, bottom)


def turned_ratio(one, whole):
    """1 over a ratio less an integer; None where this is 0."""
    rest = one[0] - whole * one[1]
    if rest == 0:
        return None
    return (one[1], rest)
