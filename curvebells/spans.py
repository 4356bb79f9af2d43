"""Least rows of spans: the times from moments to moments, and what is asked of them."""

from curvebells.errors import InvalidPlace, InvalidSize, InvalidSpans
from curvebells.lines import Line, lately_spans, places_of_spans, since_row, soon_spans, until_row, zeros_of_spans
from curvebells.places import is_moment, place_order, zero_of
from curvebells.values import is_count


def is_spans(value):
    """Whether any value is a least row."""
    if not isinstance(value, tuple) or not all([is_span(span) for span in value]):
        return False
    return all([is_apart(span, behind) for span, behind in zip(value, value[1:])])


def is_span(value):
    """Whether any value is a span."""
    if not isinstance(value, tuple) or len(value) != 4:
        return False
    low, has_low, high, has_high = value
    if not is_end(low, has_low) or not is_end(high, has_high):
        return False
    if low is None or high is None:
        return True
    order = place_order(low, high)
    return order < 0 or (order == 0 and has_low and has_high)


def is_end(place, is_had):
    """Whether any two values are an end of a span."""
    if not isinstance(is_had, bool):
        return False
    return not is_had if place is None else is_moment(place)


def is_apart(span, behind):
    """Whether some time lies between two spans, in neither."""
    if span[2] is None or behind[0] is None:
        return False
    order = place_order(span[2], behind[0])
    return order < 0 or (order == 0 and not span[3] and not behind[1])


def need_spans(*rows):
    """Raises InvalidSpans for the first of any values that is no least row."""
    for at, row in enumerate(rows):
        if not is_spans(row):
            raise InvalidSpans(at)


def line_of(*rows):
    """The line of some least rows."""
    line = Line()
    for row in rows:
        line.mark(zeros_of_spans(row))
    return line


def least_row(line, row):
    """The least row of a line's row of truths."""
    return places_of_spans(line.spans_in(row))


def in_spans(one, time):
    """Whether a moment is in a least row; any values."""
    need_spans(one)
    if not is_moment(time):
        raise InvalidPlace(0)
    line = line_of(one)
    zero = zero_of(time)
    line.put(zero)
    return line.truths[0][2 * line.index_of(zero) + 1]


def same_spans(one, other):
    """Whether two least rows have the same times; any values."""
    need_spans(one, other)
    line = line_of(one, other)
    return line.truths[0] == line.truths[1]


def spans_both(one, other):
    """The times in both of two least rows; any values."""
    need_spans(one, other)
    line = line_of(one, other)
    return least_row(line, [first and second for first, second in zip(line.truths[0], line.truths[1])])


def spans_either(one, other):
    """The times in one or both of two least rows; any values."""
    need_spans(one, other)
    line = line_of(one, other)
    return least_row(line, [first or second for first, second in zip(line.truths[0], line.truths[1])])


def spans_without(one):
    """The times that are not in a least row; any value."""
    need_spans(one)
    line = line_of(one)
    return least_row(line, [not is_in for is_in in line.truths[0]])


def until_of(one, other):
    """When, at some later time, it is the other, and the one at all times strictly between; any values."""
    need_spans(one, other)
    line = line_of(one, other)
    return least_row(line, until_row(line.truths[0], line.truths[1]))


def since_of(one, other):
    """When, at some earlier time, it was the other, and the one at all times strictly between; any values."""
    need_spans(one, other)
    line = line_of(one, other)
    return least_row(line, since_row(line.truths[0], line.truths[1]))


def soon_of(one, n):
    """When it is so at some later time, less than n later; any values."""
    need_spans(one)
    need_count(n)
    return shifted_row(soon_spans(zeros_of_spans(one), n))


def lately_of(one, n):
    """When it was so at some earlier time, less than n earlier; any values."""
    need_spans(one)
    need_count(n)
    return shifted_row(lately_spans(zeros_of_spans(one), n))


def need_count(n):
    """Raises InvalidSize for any value that is no integer from 1 on."""
    if not is_count(n):
        raise InvalidSize("n")


def shifted_row(spans):
    """The least row of the times in some spans of zeros, which may have times in common."""
    line = Line()
    line.mark(spans)
    return least_row(line, line.truths[0])
