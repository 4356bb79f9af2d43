"""Told rows of signs: whether some curves have them, and such curves."""

from curvebells.curves import curve_scaled, curve_times
from curvebells.errors import InvalidTable, Refused
from curvebells.values import is_integer, is_sequence


def told_fault(rows):
    """None if the rows are some curves' table, else the first fault; any value."""
    need_rows(rows)
    for at, row in enumerate(rows):
        cell = row_fault(row)
        if cell is not None:
            return (at, cell)
    cell = idle_cell(rows)
    if cell is not None:
        return (None, cell)
    return None


def need_rows(rows):
    """Raises InvalidTable for any value that is no sequence of rows of signs of one odd length."""
    if not is_sequence(rows):
        raise InvalidTable(-1)
    for at, row in enumerate(rows):
        if not is_sign_row(row) or len(row) != len(rows[0]):
            raise InvalidTable(at)


def is_sign_row(value):
    """Whether any value is a tuple of signs of odd length."""
    if not isinstance(value, tuple) or len(value) & 1 == 0:
        return False
    return all([is_integer(sign) and -1 <= sign <= 1 for sign in value])


def is_nought(row):
    """Whether a row is 0 throughout."""
    return all([sign == 0 for sign in row])


def row_fault(row):
    """The first cell of a row that no curve has so, or None."""
    if is_nought(row):
        return None
    for cell, sign in enumerate(row):
        if cell & 1 == 0:
            if sign == 0:
                return cell
        elif sign != 0 and (sign != row[cell - 1] or sign != row[cell + 1]):
            return cell
    return None


def idle_cell(rows):
    """The first odd cell at which no row is 0 but those that are so throughout, or None."""
    busy = [row for row in rows if not is_nought(row)]
    length = len(rows[0]) if rows else 0
    for cell in range(1, length, 2):
        if all([row[cell] != 0 for row in busy]):
            return cell
    return None


def told_curves(rows):
    """Curves with these rows of signs, whose moments are 1, 2, 3 and so on; any value."""
    fault = told_fault(rows)
    if fault is not None:
        raise Refused(fault)
    return tuple([told_curve(row) for row in rows])


def told_curve(row):
    """The curve of one row that is told without a fault."""
    if is_nought(row):
        return ()
    curve = (1,)
    for moment in zero_moments(row):
        curve = curve_times(curve, (-moment, 1))
    return curve_scaled(curve, row[-1])


def zero_moments(row):
    """The moments, numbered from 1, at which a row is nought: twice where the sign stays."""
    moments = []
    for cell in range(1, len(row), 2):
        if row[cell] == 0:
            moments.append(cell // 2 + 1)
            if row[cell - 1] == row[cell + 1]:
                moments.append(cell // 2 + 1)
    return moments


def least_degree(row):
    """The least degree of a curve with this row of signs, None for noughts; any value."""
    need_rows([row])
    cell = row_fault(row)
    if cell is not None:
        raise Refused(cell)
    if is_nought(row):
        return None
    return len(zero_moments(row))
