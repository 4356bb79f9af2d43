"""Tables: the moments at which curves are nought, and the signs between them."""

from curvebells.curves import curve_sign, first_sign, is_curve, last_sign, without_end
from curvebells.cuts import NOUGHT, common_curve, cut_count, cuts_hold, cuts_of, plain_curve, quotient_curve
from curvebells.errors import InvalidCurve, InvalidPlace, InvalidSize
from curvebells.papers import shows_zero
from curvebells.places import gathered_zeros, is_moment, is_plain, place_among, ratio_place, simplest_between
from curvebells.places import zero_against, zero_of, zeros_of
from curvebells.ratios import is_ratio, middle_ratio, ratio_order, simplest_ratio
from curvebells.values import is_lot_below, is_number, is_sequence


class Table:
    """The moments of curves and marks, and the signs of all curves in each cell."""

    def __init__(self, curves, marks=()):
        need_curves(curves)
        need_marks(marks)
        self.curves = tuple(curves)
        self.marks = tuple(marks)
        plains = plains_of(self.curves)
        groups = moment_groups(plains, self.marks)
        # A group begins with the zero of the first curve that is nought there, else with the first mark.
        self.moments = tuple([(group[0].curve, group[0].number) for group in groups])
        self.signs = signs_by_cells(self.curves, plains, groups)

    def __len__(self):
        return len(self.signs)


def need_curves(curves):
    """Raises InvalidCurve for any value that is no sequence of curves."""
    if not is_sequence(curves):
        raise InvalidCurve(-1)
    for at, curve in enumerate(curves):
        if not is_curve(curve):
            raise InvalidCurve(at)


def need_marks(marks):
    """Raises InvalidPlace for any value that is no sequence of moments."""
    if not is_sequence(marks):
        raise InvalidPlace(-1)
    for at, mark in enumerate(marks):
        if not is_moment(mark):
            raise InvalidPlace(at)


def plains_of(curves):
    """The plain curve of each curve, (1,) for constants, None for ()."""
    return [plain_curve(curve) if curve else None for curve in curves]


def moment_groups(plains, marks):
    """For each moment, ascending, the zeros that are it: of unlike plain curves in their order, then of marks."""
    unlike = {plain: True for plain in plains if plain is not None}
    zeros = []
    for plain in unlike:
        zeros = zeros + [zero for zero in zeros_of(plain) if zero_against(zero, NOUGHT) > 0]
    zeros = zeros + [zero_of(mark) for mark in marks]
    return [[zeros[number] for number in group] for group in gathered_zeros(zeros)]


def is_nought_in(plain, group):
    """Whether a curve other than () with this plain curve is nought at a moment."""
    return plain in [zero.curve for zero in group]


def signs_by_cells(curves, plains, groups):
    """For each cell the tuple of the signs of all curves."""
    signs = [tuple([first_sign(curve) for curve in curves])]
    for at, group in enumerate(groups):
        # A curve that is not nought at a moment has there the sign of the stretch ahead.
        ahead = signs[-1]
        signs.append(tuple([0 if is_nought_in(plain, group) else sign for plain, sign in zip(plains, ahead)]))
        if at + 1 < len(groups):
            between = ratio_between(group[0], groups[at + 1][0])
            signs.append(tuple([curve_sign(curve, between) for curve in curves]))
        else:
            signs.append(tuple([last_sign(curve) for curve in curves]))
    return tuple(signs)


def ratio_between(one, other):
    """A ratio strictly between two zeros, the lesser one first."""
    part_zeros(one, other)
    return simplest_ratio(one.high, other.low)


def part_zeros(one, other):
    """Halves the spans of two zeros, the lesser one first, until the first one ends ahead of the second one."""
    while ratio_order(one.high, other.low) >= 0:
        one.halve()
        other.halve()


def need_number(table, number):
    """Raises InvalidSize for any value that is no number of a curve."""
    if not is_number(number) or number >= len(table.curves):
        raise InvalidSize("number")


def sign_row(table, number):
    """The signs of one curve by cells; any value as its number."""
    need_number(table, number)
    return tuple([signs[number] for signs in table.signs])


def zero_cells(table, number):
    """The odd cells in which a curve is 0, ascending; any value as its number."""
    need_number(table, number)
    return tuple([cell for cell in range(1, len(table), 2) if table.signs[cell][number] == 0])


def inner_place(table, cell):
    """A place within a cell; any value as the cell."""
    if not is_number(cell) or cell >= len(table):
        raise InvalidSize("cell")
    return cell_place(table.moments, cell)


def cell_place(moments, cell):
    """A place within a cell that ascending moments make."""
    after = cell // 2
    if cell & 1 == 1:
        return moments[after]
    low = moments[after - 1] if after > 0 else ratio_place(NOUGHT)
    high = moments[after] if after < len(moments) else None
    return ratio_place(simplest_between(low, high))


def time_cell(table, time):
    """The cell in which a moment lies; any value as the moment."""
    if not is_moment(time):
        raise InvalidPlace(0)
    ahead, is_there = place_among(time, table.moments)
    return 2 * ahead + 1 if is_there else 2 * ahead


def joined_tables(one, other):
    """The table of the curves and marks of both."""
    return Table(one.curves + other.curves, one.marks + other.marks)


def only_curves(table, numbers):
    """The table of the curves with these numbers, in this order, without marks."""
    return Table([table.curves[number] for number in numbers])


def laid_cells(fine, coarse):
    """For each cell of one table the cell of the other one in which it lies; None if a moment there is none here."""
    many = len(fine.moments)
    groups = gathered_zeros([zero_of(moment) for moment in fine.moments + coarse.moments])
    cells = [0]
    behind = 0
    for group in groups:
        # A group begins with the fine table's moment, and ends with the coarse one's, where there are such.
        if group[0] >= many:
            return None
        if group[-1] >= many:
            cells.append(behind + 1)
            behind += 2
        else:
            cells.append(behind)
        cells.append(behind)
    return tuple(cells)


def turned_curve(curve, degree):
    """The coefficients from behind, filled with noughts to the degree; any value as the degree."""
    if not is_number(degree) or degree < len(curve) - 1:
        raise InvalidSize("degree")
    noughts = [0] * (degree + 1 - len(curve))
    return without_end(noughts + list(curve[::-1]))


def table_paper(curves):
    """Some paper of the table of curves: spans and cuts."""
    need_curves(curves)
    plains = plains_of(curves)
    groups = moment_groups(plains, ())
    shared = [shared_curve(group) for group in groups]
    part_groups(groups, shared)
    spans = []
    for group, curve in zip(groups, shared):
        numbers = [at for at, plain in enumerate(plains) if is_nought_in(plain, group)]
        spans.append((group[0].low, group[0].high, curve, tuple(numbers)))
    cuts = [None if plain is None else cuts_of(plain, NOUGHT, None) for plain in plains]
    return (tuple(spans), tuple(cuts))


def shared_curve(group):
    """The greatest common divisor of the curves of some zeros."""
    curve = ()
    for zero in group:
        curve = common_curve(curve, zero.curve)
    return curve


def part_groups(groups, shared):
    """Halves the first span of each group until it may stand in a paper, if the curves are the shared ones."""
    for group, curve in zip(groups, shared):
        zero = group[0]
        while zero.low[0] <= 0 or not shows_zero(curve, zero.low, zero.high):
            zero.halve()
    for group, behind in zip(groups, groups[1:]):
        part_zeros(group[0], behind[0])


def table_holds(curves, value):
    """The rows of signs that any value shows as a paper of the table of curves, or None if it is none."""
    need_curves(curves)
    if not isinstance(value, tuple) or len(value) != 2:
        return None
    spans, cuts = value
    if not are_spans(curves, spans) or not are_counts(curves, spans, cuts):
        return None
    return tuple([shown_row(curve, at, spans) for at, curve in enumerate(curves)])


def are_spans(curves, value):
    """Whether any value is a tuple of spans, each with a zero of the curves that it names, apart and ascending."""
    if not isinstance(value, tuple) or not all([is_span(curves, span) for span in value]):
        return False
    return all([ratio_order(span[1], behind[0]) < 0 for span, behind in zip(value, value[1:])])


def is_span(curves, value):
    """Whether any value is a span of a paper of these curves."""
    if not isinstance(value, tuple) or len(value) != 4:
        return False
    low, high, shared, numbers = value
    if not is_ratio(low) or not is_ratio(high) or low[0] <= 0:
        return False
    if not is_plain(shared) or not shows_zero(shared, low, high):
        return False
    if not isinstance(numbers, tuple) or len(numbers) == 0 or not is_lot_below(numbers, len(curves)):
        return False
    return all([curves[at] != () and quotient_curve(curves[at], shared) is not None for at in numbers])


def are_counts(curves, spans, value):
    """Whether any value has for each curve cuts by which it has as many zeros as spans name it."""
    if not isinstance(value, tuple) or len(value) != len(curves):
        return False
    return all([is_count_by(curve, at, spans, cuts) for at, (curve, cuts) in enumerate(zip(curves, value))])


def is_count_by(curve, at, spans, cuts):
    """Whether any value is cuts by which a curve is nought in the spans that name it alone; None for ()."""
    if len(curve) == 0:
        return cuts is None
    plain = plain_curve(curve)
    named = [span for span in spans if at in span[3]]
    return cuts_hold(plain, NOUGHT, None, cuts) and cut_count(plain, NOUGHT, None, cuts) == len(named)


def shown_row(curve, at, spans):
    """The signs of a curve by cells, if these spans are the moments."""
    row = [first_sign(curve)]
    for span, behind in zip(spans, spans[1:]):
        row.append(0 if at in span[3] else row[-1])
        row.append(curve_sign(curve, middle_ratio(span[1], behind[0])))
    if spans:
        row.append(0 if at in spans[-1][3] else row[-1])
        row.append(last_sign(curve))
    return tuple(row)
