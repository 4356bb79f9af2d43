"""Common divisors of curves, and cuts: ratios that show how many zeros a curve has."""

from math import gcd

from curvebells.curves import curve_of, curve_plus, curve_scaled, curve_sign, curve_slope, curve_times
from curvebells.curves import without_end
from curvebells.ratios import is_ratio, middle_ratio, ratio_order
from curvebells.values import sign_of

NOUGHT = (0, 1)
UNIT = (1, 1)


def primitive_curve(f):
    """The primitive curve of which a curve other than () is an integer multiple."""
    shared = 0
    for a in f:
        shared = gcd(shared, a)
    if f[-1] < 0:
        shared = -shared
    return tuple([a // shared for a in f])


def common_curve(f, g):
    """The greatest common divisor of two curves, () if both are ()."""
    while len(g) > 0:
        rest = rest_curve(f, g)
        # Without this the integers would grow with each step.
        f, g = g, primitive_curve(rest) if rest else ()
    return primitive_curve(f) if f else ()


def rest_curve(f, g):
    """What is left of an integer multiple of f over g: of a lesser degree than g."""
    rest = f
    while len(rest) >= len(g):
        shared = gcd(rest[-1], g[-1])
        behind = [0] * (len(rest) - len(g)) + [rest[-1] // shared * b for b in g]
        rest = without_end([g[-1] // shared * a - b for a, b in zip(rest, behind)])
    return rest


def quotient_curve(f, g):
    """The curve whose product with g is f, or None; g is not ()."""
    rest = list(f)
    quotient = []
    for begin in range(len(f) - len(g), -1, -1):
        lead = rest[begin + len(g) - 1]
        if lead % g[-1] != 0:
            return None
        quotient.append(lead // g[-1])
        for at, b in enumerate(g):
            rest[begin + at] -= quotient[-1] * b
    if len(without_end(rest)) > 0:
        return None
    return tuple(quotient[::-1])


def plain_curve(f):
    """The plain curve with the same zeros; (1,) for a constant."""
    one = primitive_curve(f)
    return quotient_curve(one, common_curve(one, curve_slope(one)))


def curve_parts(f):
    """The pairs (times, plain curve): the curve has each zero that f has so many times."""
    parts = []
    times = 1
    rest = primitive_curve(f)
    here = plain_curve(rest)
    # here has each zero that f has so many times or more often.
    while len(here) > 1:
        rest = quotient_curve(rest, here)
        behind = plain_curve(rest)
        if len(behind) < len(here):
            parts.append((times, quotient_curve(here, behind)))
        here = behind
        times += 1
    return tuple(parts)


def sign_changes(f, low, high):
    """How often the sign changes in the coefficients of f along an open span; None is no bound."""
    changes = 0
    last = 0
    for a in spread_curve(f, low, high):
        sign = sign_of(a)
        if sign != 0:
            if sign == -last:
                changes += 1
            last = sign
    return changes


def spread_curve(f, low, high):
    """A multiple, above 0, of f at t times its bottom to the degree: x above 0 leads t through the span."""
    if high is None:
        top, bottom = (low[0], low[1]), (low[1],)
    elif low is None:
        top, bottom = (high[0], -high[1]), (high[1],)
    else:
        scale = low[1] * high[1]
        top, bottom = (low[0] * high[1], high[0] * low[1]), (scale, scale)
    top = curve_of(top)
    spread = ()
    power = (1,)
    for at in range(len(f) - 1, -1, -1):
        spread = curve_plus(curve_times(spread, top), curve_scaled(power, f[at]))
        if at > 0:
            power = curve_times(power, bottom)
    return spread


def cuts_of(f, low=None, high=None):
    """Some cuts of a plain curve, or of (1,), on an open span."""
    cuts = []
    spans = [(low, high)]
    if low is None and high is None:
        # On the whole line there must be a cut, even if there is nothing to count.
        spans = [(NOUGHT, None), (None, NOUGHT)]
    while spans:
        begin, end = spans.pop()
        if sign_changes(f, begin, end) > 1:
            cut = inner_cut(begin, end)
            spans.append((cut, end))
            spans.append((begin, cut))
        elif spans:
            cuts.append(end)
    return tuple(cuts)


def inner_cut(low, high):
    """A ratio in an open span, not without bounds both; without one it soon lies beyond all zeros."""
    if high is None:
        return farther_ratio(low)
    if low is None:
        top, bottom = farther_ratio((-high[0], high[1]))
        return (-top, bottom)
    return middle_ratio(low, high)


def farther_ratio(one):
    """A ratio above a ratio: the next of 0, 1 and, behind, an integer about twice as great."""
    if one[0] < 0:
        return NOUGHT
    if one[0] < one[1]:
        return UNIT
    return (2 * (one[0] // one[1]), 1)


def cuts_hold(f, low, high, value):
    """Whether any value is cuts of f on an open span."""
    if not isinstance(value, tuple) or not all([is_ratio(cut) for cut in value]):
        return False
    if low is None and high is None and len(value) == 0:
        return False
    pieces = pieces_of(low, high, value)
    if not all([is_piece(begin, end) for begin, end in pieces]):
        return False
    return all([sign_changes(f, begin, end) < 2 for begin, end in pieces])


def is_piece(low, high):
    """Whether two ratios, or None, are the bounds of a piece that is not empty."""
    return low is None or high is None or ratio_order(low, high) < 0


def pieces_of(low, high, cuts):
    """The open pieces into which cuts cut an open span."""
    ends = [low, *cuts, high]
    return list(zip(ends, ends[1:]))


def cut_count(f, low, high, cuts):
    """How many different zeros f has within an open span with such cuts."""
    at_cuts = [cut for cut in cuts if curve_sign(f, cut) == 0]
    between = [piece for piece in pieces_of(low, high, cuts) if sign_changes(f, piece[0], piece[1]) == 1]
    return len(at_cuts) + len(between)


def count_zeros(f, low=None, high=None):
    """How many different zeros a curve other than () has within an open span."""
    plain = plain_curve(f)
    return cut_count(plain, low, high, cuts_of(plain, low, high))
