"""Branches: for which worth of a handle a face is nought at a time, and how this graph goes."""

from curvebells.curves import curve_minus, curve_plus, curve_scaled, curve_times, first_sign, without_end
from curvebells.cuts import NOUGHT, plain_curve, quotient_curve
from curvebells.errors import InvalidPlace, InvalidSize
from curvebells.places import moments_of, need_place, place_order, place_sides, ratio_against, ratio_place
from curvebells.places import zero_of, zero_sign, zeros_of
from curvebells.ratios import is_ratio, ratio_by
from curvebells.values import is_number, sign_of


def felt_face(handle, f):
    """The face (bell, a, c, j) with this number, if it feels the handle; any value as the number."""
    if not is_number(f) or f >= len(handle.faces) or handle.faces[f][2] == 0:
        raise InvalidSize("face")
    return handle.faces[f]


def need_worth(value):
    """The place of a worth, which may be told as a ratio; any value."""
    if is_ratio(value):
        return ratio_place(value)
    return need_place(value)


def hum_worth(handle, f):
    """The ratio at which a face is (), or None; any value as the face."""
    _, a, c, j = felt_face(handle, f)
    if any([at != j and integer != 0 for at, integer in enumerate(a)]):
        return None
    return ratio_by(-integer_at(a, j), c)


def integer_at(curve, power):
    """The integer of a power in a curve."""
    return curve[power] if power < len(curve) else 0


def face_at(a, c, j, one):
    """The curve a + s * c * t ** j for a ratio s, times the bottom of this."""
    return curve_plus(curve_scaled(a, one[1]), without_end([0] * j + [c * one[0]]))


def worth_at(handle, f, moment):
    """The only worth at which a face is nought at a moment; any values as the face and the moment."""
    _, a, c, j = felt_face(handle, f)
    need_place(moment)
    if ratio_against(moment, NOUGHT) <= 0:
        raise InvalidPlace(0)
    zero = zero_of(moment)
    plain = plain_curve(worths_curve(a, c, j, zero.curve))
    for worth in zeros_of(plain):
        # With a worth above the wanted one the face has at the moment the sign of c.
        if zero_sign(face_at(a, c, j, worth.high), zero) * sign_of(c) >= 0:
            return (plain, worth.number)


def worths_curve(a, c, j, curve):
    """A curve that is 0 at each worth at which a + s * c * t ** j is nought at a zero of a plain curve, not at 0."""
    if curve[0] == 0:
        # At the time 0 the face might be nought for all worths.
        curve = curve[1:]
    many = len(curve) - 1
    row = [without_end([integer_at(a, at), c if at == j else 0]) for at in range(max(len(a), j + 1))]
    rows = []
    # The rows are the face times the powers of t; at a zero of the curve they leave nothing but their rests.
    for _ in range(many):
        row = rest_row(row, curve)
        rows.append(row + [()] * (many - len(row)))
        row = [()] + row
    return determinant(rows)


def rest_row(row, curve):
    """A multiple of a row of curves, one for each power of t, less a multiple of a curve: of a lesser degree."""
    many = len(curve) - 1
    while len(row) > many:
        last = row[-1]
        begin = len(row) - 1 - many
        behind = [()] * begin + [curve_scaled(last, integer) for integer in curve]
        row = [curve_minus(curve_scaled(one, curve[-1]), other) for one, other in zip(row, behind)][:-1]
    return row


def determinant(rows):
    """The determinant, not (), of a square of curves, but for its sign."""
    last = (1,)
    while len(rows) > 1:
        chosen = [row for row in rows if row[0]]
        rows = [row for row in rows if row[0]][1:] + [row for row in rows if not row[0]]
        # Each step leaves curves that the head of the row chosen ahead divides without a rest.
        rows = [lessened_row(row, chosen[0], last) for row in rows]
        last = chosen[0][0]
    return rows[0][0]


def lessened_row(row, chosen, last):
    """A row without its head, by as much of another one as takes this away."""
    crossed = []
    for one, other in zip(row[1:], chosen[1:]):
        cross = curve_minus(curve_times(one, chosen[0]), curve_times(other, row[0]))
        crossed.append(quotient_curve(cross, last))
    return crossed


def graph_limits(handle, f):
    """What the graph of a face comes to towards the time 0 and without end; any value as the face."""
    _, a, c, j = felt_face(handle, f)
    if hum_worth(handle, f) is not None:
        return None
    powers = [at for at, integer in enumerate(a) if integer != 0]
    first, last = powers[0], powers[-1]
    # Where no power outdoes j, what is left is the part of the power j, if there is one.
    level = ratio_by(-integer_at(a, j), c)
    return (
        -sign_of(a[first]) * sign_of(c) if first < j else level,
        -sign_of(a[last]) * sign_of(c) if last > j else level,
    )


def rise_curve(a, c, j):
    """A curve that has at all times the sign of the slope of the graph."""
    return without_end([(j - at) * c * integer for at, integer in enumerate(a)])


def graph_turns(handle, f):
    """The moments, worths and signs where the graph of a face turns: 1 highest, -1 lowest; any value as the face."""
    _, a, c, j = felt_face(handle, f)
    if hum_worth(handle, f) is not None:
        return ()
    rise = rise_curve(a, c, j)
    turns = []
    for moment in moments_of(rise):
        ahead, behind = place_sides(rise, moment)
        if ahead != behind:
            turns.append((moment, worth_at(handle, f, moment), ahead))
    return tuple(turns)


def graph_branches(handle, f):
    """The pieces of the graph of a face between turns: (begin, end, low, high, sign); any value as the face."""
    _, a, c, j = felt_face(handle, f)
    if hum_worth(handle, f) is not None:
        return ()
    turns = graph_turns(handle, f)
    first, last = [bound_of(limit) for limit in graph_limits(handle, f)]
    begins = [(None, first)] + [(moment, worth) for moment, worth, _ in turns]
    ends = [(moment, worth) for moment, worth, _ in turns] + [(None, last)]
    branches = []
    sign = first_sign(rise_curve(a, c, j))
    for (begin, one), (end, other) in zip(begins, ends):
        low, high = (one, other) if sign == 1 else (other, one)
        branches.append((begin, end, low, high, sign))
        sign = -sign
    return tuple(branches)


def bound_of(limit):
    """The place of a limit that is a ratio, None for one that is none."""
    return ratio_place(limit) if is_ratio(limit) else None


def face_modes(handle, f, worth):
    """How the bell's sign changes at each moment at which a face is nought at a worth; any values as both."""
    felt_face(handle, f)
    place = need_worth(worth)
    turns = graph_turns(handle, f)
    modes = []
    for at, branch in enumerate(graph_branches(handle, f)):
        if is_strictly_between(place, branch[2], branch[3]):
            modes.append(branch_mode(handle, f, branch[4]))
        if at < len(turns) and place_order(place, turns[at][1]) == 0:
            modes.append("touch")
    return tuple(modes)


def branch_mode(handle, f, sign):
    """How the bell's sign changes where a face that feels the handle is nought on a branch of this sign."""
    bell, c = handle.faces[f][0], handle.faces[f][2]
    # A graph that rises leaves worths above it for ones below it.
    rising = -sign_of(c)
    if f > 0 and handle.faces[f - 1][0] == bell:
        # Where the second face of a bell is nought, the first one is below 0.
        rising = -rising
    return "up" if sign == rising else "down"


def is_strictly_between(place, low, high):
    """Whether a place is above one and below another one, None being no bound."""
    if low is not None and place_order(low, place) >= 0:
        return False
    return high is None or place_order(place, high) < 0
