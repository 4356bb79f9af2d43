"""Places: pairs (plain curve, number) that stand for zeros, and their exact order."""

from curvebells.curves import curve_moved, curve_sign, curve_slope, is_curve, last_sign
from curvebells.cuts import NOUGHT, common_curve, cut_count, cuts_of, inner_cut, pieces_of, plain_curve
from curvebells.cuts import sign_changes
from curvebells.errors import InvalidPlace
from curvebells.ratios import middle_ratio, ratio_by, ratio_minus, ratio_order, simplest_ratio
from curvebells.values import is_count, sign_of


class Zero:
    """One zero of a plain curve: in an open span, at whose ends the curve is not 0, or the ratio that it is."""

    def __init__(self, curve, number, low, high):
        self.curve = curve
        self.number = number
        self.low = low
        self.high = high
        self.ahead = curve_sign(curve, low)

    def halve(self):
        """Makes the span half as long, or the ratio in its middle if this is the zero."""
        middle = middle_ratio(self.low, self.high)
        sign = curve_sign(self.curve, middle)
        if sign == 0:
            self.low = middle
            self.high = middle
        elif sign == self.ahead:
            self.low = middle
        else:
            self.high = middle


def zeros_of(curve):
    """The zeros of a plain curve, or of (1,), ascending, their spans apart."""
    if len(curve) == 2:
        one = ratio_by(-curve[0], curve[1])
        return [Zero(curve, 1, one, one)]
    zeros = []
    for low, high in pieces_of(None, None, cuts_of(curve)):
        if sign_changes(curve, low, high) == 1:
            zeros.append(zero_within(curve, len(zeros) + 1, low, high))
        if high is not None and curve_sign(curve, high) == 0:
            zeros.append(Zero(curve, len(zeros) + 1, high, high))
    return zeros


def zero_within(curve, number, low, high):
    """The zero of a plain curve in a piece with one change; the piece may be without an end, or end at zeros."""
    ahead = sign_behind(curve, low)
    while is_open_end(curve, low) or is_open_end(curve, high):
        cut = inner_cut(low, high)
        sign = curve_sign(curve, cut)
        if sign == 0:
            return Zero(curve, number, cut, cut)
        if sign == ahead:
            low = cut
        else:
            high = cut
    return Zero(curve, number, low, high)


def is_open_end(curve, end):
    """Whether the end of a piece is none, or a zero of the curve."""
    return end is None or curve_sign(curve, end) == 0


def sign_behind(curve, low):
    """The sign of a plain curve right behind a ratio, or ahead of all its zeros for None."""
    if low is None:
        return -last_sign(curve) if len(curve) & 1 == 0 else last_sign(curve)
    return curve_sign(curve, low) or curve_sign(curve_slope(curve), low)


def zero_of(place):
    """The zero for which a place stands."""
    return zeros_of(place[0])[place[1] - 1]


def need_place(value):
    """The same tuple, if it is a place; any value."""
    if not isinstance(value, tuple) or len(value) != 2:
        raise InvalidPlace(-1)
    curve, number = value
    if not is_plain(curve):
        raise InvalidPlace(0)
    if not is_count(number) or number > cut_count(curve, None, None, cuts_of(curve)):
        raise InvalidPlace(1)
    return value


def is_plain(value):
    """Whether any value is a plain curve."""
    return is_curve(value) and len(value) > 1 and plain_curve(value) == value


def is_place(value):
    """Whether any value is a place."""
    try:
        need_place(value)
    except InvalidPlace:
        return False
    return True


def is_moment(value):
    """Whether any value is a place above 0."""
    return is_place(value) and ratio_against(value, NOUGHT) > 0


def places_of(f):
    """The places of all real zeros of a curve other than (), ascending."""
    plain = plain_curve(f)
    many = cut_count(plain, None, None, cuts_of(plain))
    return tuple([(plain, number) for number in range(1, many + 1)])


def moments_of(f):
    """The places of the zeros above 0 of a curve other than (), ascending."""
    places = places_of(f)
    if len(places) == 0:
        return ()
    plain = places[0][0]
    many = cut_count(plain, NOUGHT, None, cuts_of(plain, NOUGHT, None))
    return places[len(places) - many:]


def ratio_place(one):
    """The place of a ratio."""
    return ((-one[0], one[1]), 1)


def place_moved(place, n):
    """The place of the number that is greater by an integer."""
    return (curve_moved(place[0], -n), place[1])


def place_order(one, other):
    """-1, 0 or 1, as a place is less than another one, the same, or greater."""
    return zero_order(zero_of(one), zero_of(other))


def zero_order(one, other):
    """The order of two zeros; behind this the spans of unlike ones share nothing."""
    if one.curve == other.curve:
        return sign_of(one.number - other.number)
    order = span_order(one, other)
    if order == 0 and is_same_zero(one, other):
        return 0
    while order == 0:
        halve_longer(one, other)
        order = span_order(one, other)
    return order


def span_order(one, other):
    """-1 or 1, as a zero's span lies ahead of another one's, or behind it; 0 if both share something."""
    ahead = ratio_order(one.high, other.low) <= 0
    behind = ratio_order(other.high, one.low) <= 0
    # Both hold for one ratio twice.
    return int(behind) - int(ahead)


def halve_longer(one, other):
    """Halves the longer one of two spans."""
    if ratio_order(ratio_minus(one.high, one.low), ratio_minus(other.high, other.low)) >= 0:
        one.halve()
    else:
        other.halve()


def shared_span(one, other):
    """The greater one of both lows and the lesser one of both highs."""
    return (greater_ratio(one.low, other.low), lesser_ratio(one.high, other.high))


def is_same_zero(one, other):
    """Whether two zeros are the same, if their spans share something."""
    low, high = shared_span(one, other)
    if low == high:
        return curve_sign(one.curve, low) == 0 and curve_sign(other.curve, low) == 0
    return is_parted(common_curve(one.curve, other.curve), low, high)


def is_parted(curve, low, high):
    """Whether a curve has unlike signs at two ratios."""
    return curve_sign(curve, low) != curve_sign(curve, high)


def ratio_against(place, one):
    """-1, 0 or 1, as a place is less than a ratio, the same, or greater."""
    return zero_against(zero_of(place), one)


def zero_against(zero, one):
    """-1, 0 or 1, as a zero is less than a ratio, the same, or greater."""
    if zero.low == zero.high:
        return ratio_order(zero.low, one)
    if ratio_order(one, zero.low) <= 0:
        return 1
    if ratio_order(one, zero.high) >= 0:
        return -1
    return zero.ahead * curve_sign(zero.curve, one)


def gathered_places(places):
    """The numbers of the places of a sequence in groups of the same ones, ascending."""
    groups = gathered_zeros([zero_of(place) for place in places])
    return tuple([tuple(group) for group in groups])


def gathered_zeros(zeros):
    """Lists of the numbers, in a sequence, of zeros that are the same: the least zero first."""
    groups = []
    unlike = []
    for number, zero in enumerate(zeros):
        at, is_there = zero_among(zero, unlike)
        if is_there:
            groups[at].append(number)
        else:
            groups.insert(at, [number])
            unlike.insert(at, zero)
    return groups


def zero_among(zero, zeros):
    """How many of ascending unlike zeros are less than a zero, and whether the next one is the same."""
    return found_among(len(zeros), lambda at: zero_order(zero, zeros[at]))


def place_among(place, places):
    """How many of ascending unlike places are less than a place, and whether the next one is the same."""
    zero = zero_of(place)
    return found_among(len(places), lambda at: zero_order(zero, zero_of(places[at])))


def found_among(many, order):
    """How many of so many ascending things are less than one, and whether the next one is the same.

    By a function of a number: -1, 0 or 1, as the one is less than the thing of this number, the same, or greater.
    """
    low = 0
    high = many
    while low < high:
        middle = (low + high) // 2
        told = order(middle)
        if told == 0:
            return (middle, True)
        if told < 0:
            high = middle
        else:
            low = middle + 1
    return (low, False)


def place_sign(f, place):
    """The sign of any curve at a place."""
    return zero_sign(f, zero_of(place))


def zero_sign(f, zero):
    """The sign of any curve at a zero of a plain one."""
    if is_nought_at(f, zero):
        return 0
    while zero.low != zero.high and sign_changes(f, zero.low, zero.high) > 0:
        zero.halve()
    return curve_sign(f, middle_ratio(zero.low, zero.high))


def is_nought_at(f, zero):
    """Whether any curve is 0 at a zero of a plain one."""
    if zero.low == zero.high:
        return curve_sign(f, zero.low) == 0
    return is_parted(common_curve(f, zero.curve), zero.low, zero.high)


def place_sides(f, place):
    """The signs of any curve right ahead of a place and right behind it."""
    if len(f) == 0:
        return (0, 0)
    zero = zero_of(place)
    times, slope = slope_not_nought(f, zero)
    sign = zero_sign(slope, zero)
    if times & 1 == 1:
        return (-sign, sign)
    return (sign, sign)


def zero_times(f, place):
    """How often a curve other than () is 0 at a place."""
    times, _ = slope_not_nought(f, zero_of(place))
    return times


def slope_not_nought(f, zero):
    """How many slopes one must go on from a curve to one that is not 0 at a zero; this one."""
    times = 0
    while is_nought_at(f, zero):
        f = curve_slope(f)
        times += 1
    return (times, f)


def place_in(f, place):
    """The place of the same number by the plain curve of f, not (), or None if f is not 0 there."""
    plain = plain_curve(f)
    ahead, is_there = zero_among(zero_of(place), zeros_of(plain))
    return (plain, ahead + 1) if is_there else None


def whole_times(place, n=1):
    """The greatest integer that is at most n times a place."""
    return zero_whole(zero_of(place), n)


def zero_whole(zero, n):
    """The greatest integer that is at most n times a zero."""
    while is_longer(zero, n):
        zero.halve()
    # A span that is not longer than 1 / n leaves two integers to choose from.
    whole = n * zero.high[0] // zero.high[1]
    if zero_against(zero, ratio_by(whole, n)) < 0:
        return whole - 1
    return whole


def is_longer(zero, n):
    """Whether the span of a zero is longer than 1 / n."""
    return ratio_order(ratio_minus(zero.high, zero.low), (1, n)) > 0


def ratio_of(place):
    """The ratio that a place is, or None."""
    zero = zero_of(place)
    last = zero.curve[-1]
    one = ratio_by(zero_whole(zero, last), last)
    if zero_against(zero, one) == 0:
        return one
    return None


def simplest_between(one=None, other=None):
    """The simplest ratio strictly between two places, None as an argument is no bound; or None."""
    low = None if one is None else zero_of(one)
    high = None if other is None else zero_of(other)
    if low is not None and high is not None and zero_order(low, high) >= 0:
        return None
    least = None if low is None else low.low
    most = None if high is None else high.high
    while True:
        simplest = simplest_ratio(least, most)
        # What is too low, or too high, is itself a bound: so a place that is a ratio is soon one.
        if low is not None and zero_against(low, simplest) >= 0:
            low.halve()
            least = greater_ratio(simplest, low.low)
        elif high is not None and zero_against(high, simplest) <= 0:
            high.halve()
            most = lesser_ratio(simplest, high.high)
        else:
            return simplest


def greater_ratio(one, other):
    """The greater one of two ratios."""
    return other if ratio_order(one, other) < 0 else one


def lesser_ratio(one, other):
    """The lesser one of two ratios."""
    return one if ratio_order(one, other) < 0 else other
