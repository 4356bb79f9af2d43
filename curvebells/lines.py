"""Lines: ascending moments, and rows of truths, one for each cell that the moments make."""

from curvebells.curves import curve_moved
from curvebells.cuts import NOUGHT
from curvebells.places import Zero, zero_against, zero_among, zero_of
from curvebells.ratios import ratio_plus


class Line:
    """Moments that come as they are needed, and rows of truths that keep pace with them."""

    def __init__(self, zeros=()):
        self.zeros = list(zeros)
        self.truths = []

    def put(self, zero):
        """Makes a zero above 0 one of the moments, if it is not yet there."""
        at, is_there = zero_among(zero, self.zeros)
        if not is_there:
            self.zeros.insert(at, zero)
            # The stretch in which the moment lies is now a stretch, the moment and another stretch.
            self.truths = [row[:2 * at] + [row[2 * at]] * 3 + row[2 * at + 1:] for row in self.truths]

    def cells_between(self, span):
        """The range of the cells of a span of zeros, which are moments: as a span of places."""
        low, has_low, high, has_high = span
        begin = 0 if low is None else 2 * self.index_of(low) + 2 - int(has_low)
        end = 2 * len(self.zeros) + 1 if high is None else 2 * self.index_of(high) + 1 + int(has_high)
        return list(range(begin, end))

    def index_of(self, zero):
        """The number of the moment that a zero is, or of the first one above it."""
        at, _ = zero_among(zero, self.zeros)
        return at

    def mark(self, spans):
        """Adds the row of the times in some spans of zeros, in any order; their ends become moments."""
        for span in spans:
            for end in (span[0], span[2]):
                if end is not None:
                    self.put(end)
        row = [False] * (2 * len(self.zeros) + 1)
        for span in spans:
            for cell in self.cells_between(span):
                row[cell] = True
        self.truths.append(row)

    def spans_in(self, row):
        """The spans of zeros, as long as can be, that a row of truths makes."""
        spans = []
        last = len(row) - 1
        for begin, end in runs_of(row):
            low = None if begin == 0 else self.zeros[(begin - 1) // 2]
            high = None if end == last else self.zeros[end // 2]
            spans.append((low, begin & 1 == 1, high, end & 1 == 1))
        return spans

    def told_places(self):
        """The moments as places."""
        return tuple([(zero.curve, zero.number) for zero in self.zeros])

    def cells_by(self, zeros):
        """For each cell the cell that it lies in of those that some of its moments make."""
        marks = [2 * self.index_of(zero) + 1 for zero in zeros]
        cells = []
        ahead = 0
        for cell in range(2 * len(self.zeros) + 1):
            if ahead < len(marks) and cell > marks[ahead]:
                ahead += 1
            is_mark = ahead < len(marks) and cell == marks[ahead]
            cells.append(2 * ahead + int(is_mark))
        return cells

    def thin(self):
        """Leaves out all moments at which no row changes."""
        kept = [at for at in range(len(self.zeros)) if not all([is_same_about(row, at) for row in self.truths])]
        cells = [0]
        for at in kept:
            cells = cells + [2 * at + 1, 2 * at + 2]
        self.truths = [[row[cell] for cell in cells] for row in self.truths]
        self.zeros = [self.zeros[at] for at in kept]


def is_same_about(row, at):
    """Whether a row has one truth at a moment and in both stretches beside it."""
    return row[2 * at] == row[2 * at + 1] and row[2 * at + 1] == row[2 * at + 2]


def runs_of(row):
    """The pairs (first, last) of the numbers between which a row is true throughout, as long as can be."""
    runs = []
    for cell, is_true in enumerate(row):
        if is_true and cell > 0 and row[cell - 1]:
            runs[-1] = (runs[-1][0], cell)
        elif is_true:
            runs.append((cell, cell))
    return runs


def places_of_spans(spans):
    """Spans of zeros as spans of places."""
    return tuple([(end_place(low), has_low, end_place(high), has_high) for low, has_low, high, has_high in spans])


def end_place(zero):
    """The place of a zero, None for None."""
    return None if zero is None else (zero.curve, zero.number)


def zeros_of_spans(spans):
    """Spans of places as spans of zeros."""
    return [(end_zero(low), has_low, end_zero(high), has_high) for low, has_low, high, has_high in spans]


def end_zero(place):
    """The zero of a place, None for None."""
    return None if place is None else zero_of(place)


def until_row(one, other):
    """Where, by cells, the other holds at some later time, and the one at all times strictly between."""
    row = [one[-1] and other[-1]]
    for cell in range(len(one) - 2, -1, -1):
        if cell & 1 == 1:
            # At a moment it is as in the stretch behind.
            row.append(row[-1])
        else:
            row.append(one[cell] and (other[cell] or other[cell + 1] or (one[cell + 1] and row[-1])))
    return row[::-1]


def since_row(one, other):
    """Where, by cells, the other holds at some earlier time, and the one at all times strictly between."""
    return until_row(one[::-1], other[::-1])[::-1]


def soon_spans(spans, n):
    """The spans of zeros at whose times some time less than n later lies in one of these."""
    return [(moved_end(span[0], -n), False, span[2], False) for span in spans]


def lately_spans(spans, n):
    """The spans of zeros at whose times some time less than n earlier lies in one of these."""
    return [(span[0], False, moved_end(span[2], n), False) for span in spans]


def moved_end(zero, n):
    """The zero that is greater by an integer; None, the beginning or no end, for None or what is not above 0."""
    if zero is None:
        return None
    by = (n, 1)
    moved = Zero(curve_moved(zero.curve, -n), zero.number, ratio_plus(zero.low, by), ratio_plus(zero.high, by))
    return moved if zero_against(moved, NOUGHT) > 0 else None
