"""Bands: halls whose things turn at told moments; and when a saying is true of one."""

from curvebells.errors import InvalidPlace, InvalidTurns
from curvebells.halls import bell_number, is_ways, thing_number
from curvebells.lines import places_of_spans
from curvebells.places import is_moment, zero_of, zero_order
from curvebells.rows import ring_row, tale_of
from curvebells.stairs import renumbered_row, stair_names
from curvebells.tables import cell_place
from curvebells.truths import truth_line
from curvebells.values import is_sequence


class Band:
    """A hall whose things follow other ways strictly behind each of some moments."""

    def __init__(self, hall, turns=()):
        if not is_sequence(turns):
            raise InvalidTurns(-1)
        last = None
        for at, turn in enumerate(turns):
            if not is_turn(hall, turn):
                raise InvalidTurns(at)
            zero = zero_of(turn[0])
            if last is not None and zero_order(last, zero) >= 0:
                raise InvalidTurns(at)
            last = zero
        self.hall = hall
        self.turns = tuple(turns)
        self.row = turned_row(hall, self.turns)
        self.tale = tale_of(self.row)


def is_turn(hall, value):
    """Whether any value is a pair of a moment and ways of a hall."""
    if not isinstance(value, tuple) or len(value) != 2:
        return False
    return is_moment(value[0]) and is_ways(hall, value[1])


def turned_row(hall, turns):
    """The row of a hall whose things follow other ways behind some moments: each ring by the ways at it."""
    begin = None
    rows = {}
    row = []
    ends = [zero_of(moment) for moment, _ in turns] + [None]
    for ways, end in zip([hall.first] + [ways for _, ways in turns], ends):
        if ways not in rows:
            rows[ways] = [(zero_of(pair[0]), pair) for pair in ring_row(hall, ways)]
        row = row + [pair for zero, pair in rows[ways] if is_within(zero, begin, end)]
        begin = end
    return tuple(row)


def is_within(zero, begin, end):
    """Whether a zero is behind the first of two others, and not behind the second one; None is no bound."""
    if begin is not None and zero_order(zero, begin) <= 0:
        return False
    return end is None or zero_order(zero, end) <= 0


def need_names(band, stair):
    """Raises NoName for the first name of a stair, things, then bells, that the hall of a band lacks."""
    things, bells = stair_names(stair)
    for name in things:
        thing_number(band.hall, name)
    for name in bells:
        bell_number(band.hall, name)


def stair_line(band, stair):
    """The line with the truths of all rows of a stair."""
    need_names(band, stair)
    return truth_line(band, stair.rows)


def truth_of(band, stair):
    """The least row of all times at which a stair holds in a band."""
    line = stair_line(band, stair)
    return places_of_spans(line.spans_in(line.truths[-1]))


def holds_at(band, stair, time):
    """Whether a stair holds at a moment; any value as the moment."""
    need_names(band, stair)
    if not is_moment(time):
        raise InvalidPlace(0)
    line = truth_line(band, stair.rows)
    zero = zero_of(time)
    line.put(zero)
    return line.truths[-1][2 * line.index_of(zero) + 1]


def first_time(band, stair):
    """The greatest bound below all times at which a stair holds, and whether it holds there; None if never."""
    spans = truth_of(band, stair)
    return spans[0][:2] if spans else None


def last_time(band, stair):
    """The least bound above all times at which a stair holds, and whether it holds there; None if never."""
    spans = truth_of(band, stair)
    return spans[-1][2:] if spans else None


def same_truth(band, one, other):
    """Some moment at which just one of two stairs holds, or None."""
    need_names(band, one)
    need_names(band, other)
    many = len(one.rows)
    behind = [many + at for at in range(len(other.rows))]
    line = truth_line(band, one.rows + tuple([renumbered_row(row, behind) for row in other.rows]))
    for cell, (first, second) in enumerate(zip(line.truths[many - 1], line.truths[-1])):
        if first != second:
            return cell_place(line.told_places(), cell)
    return None


def labels_of(band, stair):
    """Some labels of a stair in a band."""
    line = stair_line(band, stair)
    return (line.told_places(), tuple([tuple(row) for row in line.truths]))


def labels_hold(band, stair, value):
    """Whether any value is labels of a stair in a band."""
    need_names(band, stair)
    if not are_labels(value, len(stair.rows)):
        return False
    places, rows = value
    zeros = [zero_of(place) for place in places]
    if not all([zero_order(one, other) < 0 for one, other in zip(zeros, zeros[1:])]):
        return False
    line = truth_line(band, stair.rows)
    for zero in zeros:
        line.put(zero)
    cells = line.cells_by(zeros)
    return all([[told[cell] for cell in cells] == row for told, row in zip(rows, line.truths)])


def are_labels(value, many):
    """Whether any value has the form of labels of so many rows; their moments may be in any order."""
    if not isinstance(value, tuple) or len(value) != 2:
        return False
    places, rows = value
    if not isinstance(places, tuple) or not all([is_moment(place) for place in places]):
        return False
    if not isinstance(rows, tuple) or len(rows) != many:
        return False
    return all([is_truth_row(row, 2 * len(places) + 1) for row in rows])


def is_truth_row(value, many):
    """Whether any value is a tuple of so many truths."""
    if not isinstance(value, tuple) or len(value) != many:
        return False
    return all([isinstance(is_true, bool) for is_true in value])


def ever_holds(band, stair):
    """(True, some moment at which a stair holds), or (False, some labels)."""
    line = stair_line(band, stair)
    for cell, is_true in enumerate(line.truths[-1]):
        if is_true:
            return (True, cell_place(line.told_places(), cell))
    return (False, (line.told_places(), tuple([tuple(row) for row in line.truths])))
