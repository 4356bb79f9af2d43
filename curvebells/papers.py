"""Papers: seats of places, and what shows the order of two places or a sign without seeking anything."""

from curvebells.curves import curve_sign, is_curve
from curvebells.cuts import common_curve, cut_count, cuts_hold, cuts_of, quotient_curve, sign_changes
from curvebells.places import greater_ratio, is_longer, is_nought_at, lesser_ratio, shared_span, zero_of, zero_order
from curvebells.ratios import is_ratio, middle_ratio, ratio_order
from curvebells.values import is_integer


def seat_of(place, n=1):
    """Some seat of a place whose high is greater than its low by at most 1 / n."""
    zero = zero_of(place)
    while is_longer(zero, n):
        zero.halve()
    return zero_seat(zero)


def zero_seat(zero):
    """The seat with the span in which a zero is held."""
    return (zero.low, zero.high, cuts_of(zero.curve, None, zero.low))


def seat_holds(place, value):
    """Whether any value is a seat of a place."""
    if not isinstance(value, tuple) or len(value) != 3:
        return False
    low, high, cuts = value
    if not is_ratio(low) or not is_ratio(high) or not shows_zero(place[0], low, high):
        return False
    return cuts_hold(place[0], None, low, cuts) and cut_count(place[0], None, low, cuts) == place[1] - 1


def shows_zero(curve, low, high):
    """Whether a curve, not 0 at two ratios, shows one zero between them, or is 0 there if they are equal.

    Not if the low one is above the high one.
    """
    if ratio_order(low, high) < 0 and (curve_sign(curve, low) == 0 or curve_sign(curve, high) == 0):
        return False
    return has_one_change(curve, low, high)


def has_one_change(curve, low, high):
    """Whether a curve has one change between two ratios, or is 0 there if they are equal; not if low is above."""
    if low == high:
        return curve_sign(curve, low) == 0
    return ratio_order(low, high) < 0 and sign_changes(curve, low, high) == 1


def place_paper(one, other):
    """Some paper of the order of two places."""
    first = zero_of(one)
    second = zero_of(other)
    order = zero_order(first, second)
    if order == 0:
        return same_paper(first, second)
    return ("less" if order < 0 else "more", zero_seat(first), zero_seat(second))


def same_paper(first, second):
    """The paper that two zeros are the same."""
    shared = common_curve(first.curve, second.curve)
    low, high = shared_span(first, second)
    while not has_one_change(shared, low, high):
        first.halve()
        second.halve()
        low, high = shared_span(first, second)
    return ("same", shared, zero_seat(first), zero_seat(second))


def place_paper_holds(one, other, value):
    """Whether any value is a paper of the order of two places."""
    if not isinstance(value, tuple) or len(value) < 3:
        return False
    if not seat_holds(one, value[-2]) or not seat_holds(other, value[-1]):
        return False
    if len(value) == 4:
        return value[0] == "same" and is_same_paper(one[0], other[0], value)
    if len(value) > 4:
        return False
    if value[0] == "less":
        return are_seats_apart(value[1], value[2])
    return value[0] == "more" and are_seats_apart(value[2], value[1])


def are_seats_apart(seat, other):
    """Whether one seat's high is at most another one's low, but not four times the same ratio."""
    if seat[0] == other[1]:
        return False
    return ratio_order(seat[1], other[0]) <= 0


def is_same_paper(f, g, paper):
    """Whether a curve of which f and g are products shows by its signs that both seats have one zero."""
    _, shared, seat, other = paper
    low = greater_ratio(seat[0], other[0])
    high = lesser_ratio(seat[1], other[1])
    return is_divisor(shared, f) and is_divisor(shared, g) and has_one_change(shared, low, high)


def is_divisor(value, f):
    """Whether any value is a curve of degree 1 at least of which f is a product with a curve."""
    return is_curve(value) and len(value) > 1 and quotient_curve(f, value) is not None


def sign_paper(f, place):
    """Some paper of the sign of any curve at a place."""
    zero = zero_of(place)
    if len(f) == 0:
        return (0, (), zero_seat(zero))
    if is_nought_at(f, zero):
        shared = common_curve(f, zero.curve)
        while not has_one_change(shared, zero.low, zero.high):
            zero.halve()
        return (0, shared, zero_seat(zero))
    while not has_no_change(f, zero.low, zero.high):
        zero.halve()
    return (curve_sign(f, middle_ratio(zero.low, zero.high)), None, zero_seat(zero))


def has_no_change(f, low, high):
    """Whether a curve has no change between two ratios; so if they are equal."""
    return low == high or sign_changes(f, low, high) == 0


def sign_paper_holds(f, place, value):
    """Whether any value is a paper of the sign of any curve at a place."""
    if not isinstance(value, tuple) or len(value) != 3:
        return False
    sign, shared, seat = value
    if not is_integer(sign) or not seat_holds(place, seat):
        return False
    low, high, _ = seat
    if sign != 0:
        if shared is not None or not has_no_change(f, low, high):
            return False
        return curve_sign(f, middle_ratio(low, high)) == sign
    if len(f) == 0:
        return shared == ()
    return is_divisor(shared, f) and is_divisor(shared, place[0]) and has_one_change(shared, low, high)
