"""Promises [35] and [36]: spans of times, least rows, and what is made of them."""

import unittest
from decimal import Decimal, localcontext
from fractions import Fraction

from curvebells.errors import InvalidPlace, InvalidSize, InvalidSpans
from curvebells.places import place_moved, place_order, ratio_place
from curvebells.spans import (
    in_spans, is_spans, lately_of, same_spans, since_of, soon_of, spans_both, spans_either, spans_without, until_of,
)
from tests.helpers import ANY_VALUES, ROOTS, BellCase, decimal, ratio, source, times

ALL = ((None, False, None, False),)
ONE, TWO, THREE = ((-1, 1), 1), ((-2, 1), 1), ((-3, 1), 1)
ROOT = ((-2, 0, 1), 2)
# Other places of the same numbers.
ALIKE = {ONE: ((0, -1, 1), 2), TWO: ((-4, 0, 1), 2), THREE: ((-6, -1, 1), 2), ROOT: ((0, -2, 0, 1), 3)}


def rounded(number):
    """A number by 40 places behind the point, so that an integer more or less is exact."""
    with localcontext(prec=80):
        return decimal(number).quantize(Decimal(10) ** -40)


def pool():
    """Moments, ascending, each with some places, and the number that it is."""
    moments = []
    for curve, zeros in ROOTS.items():
        for at, zero in enumerate(zeros):
            if zero > 0:
                moments.append((rounded(zero), (curve, at + 1)))
    for n in (2, 3, 4):
        moments.append((Decimal(n), ((-n, 1), 1)))
    return sorted(moments)


POOL = pool()


def some_row(rng, most=3):
    """A least row, and its spans by numbers; None is no bound."""
    many = rng.randint(0, 2 * most)
    chosen = sorted(rng.sample(POOL, many))
    cells = []
    for _ in range(2 * many + 1):
        cells.append(rng.random() < 0.5)
    return row_of(chosen, cells)


def row_of(chosen, cells):
    """The least row of some moments and truths, and its spans by numbers."""
    row, numbers = [], []
    at = 0
    while at < len(cells):
        end = at
        while cells[at] and end + 1 < len(cells) and cells[end + 1]:
            end += 1
        if cells[at]:
            low = chosen[(at - 1) // 2] if at > 0 else (None, None)
            high = chosen[end // 2] if end + 1 < len(cells) else (None, None)
            row.append((low[1], at % 2 == 1, high[1], end % 2 == 1))
            numbers.append((low[0], at % 2 == 1, high[0], end % 2 == 1))
        at = end + 1
    return tuple(row), numbers


def is_in(numbers, time):
    for low, has_low, high, has_high in numbers:
        above = low is None or low < time or (low == time and has_low)
        below = high is None or time < high or (high == time and has_high)
        if above and below:
            return True
    return False


def samples(*rows, more=()):
    """Places of all ends, of the ends with some integers more, and of ratios between, each with its number."""
    found = []
    for row, numbers in rows:
        for span, told in zip(row, numbers):
            for place, number in ((span[0], told[0]), (span[2], told[2])):
                if place is not None:
                    found.append((number, place))
                    found += [(number + n, place_moved(place, n)) for n in more if number + n > 0]
    found.sort()
    numbers = [Decimal(0)] + [number for number, _ in found]
    for low, high in zip(numbers, numbers[1:]):
        if high - low > Decimal(10) ** -20:
            between = Fraction(low + (high - low) / 2).limit_denominator(10 ** 40)
            found.append((rounded(between), ratio_place(ratio(between))))
    return found + [(numbers[-1] + 1000, ratio_place(ratio(Fraction(numbers[-1] + 1000).limit_denominator(9))))]


def holds_until(one, other, cell):
    """By the words: the other in a later cell, or later in this stretch, and the one all between."""
    for end in range(cell, len(one)):
        if end == cell and cell % 2 == 1:
            continue
        between = range(cell if cell % 2 == 0 else cell + 1, end + 1 if end % 2 == 0 else end)
        if other[end] and all(one[at] for at in between):
            return True
    return False


class TestLeastRows(BellCase):

    def test_rows(self):
        for row in ((), ALL, ((ONE, True, ONE, True),), ((ONE, True, ALIKE[ONE], True),), ((None, False, ONE, True),),
                    ((ONE, False, TWO, False), (TWO, False, None, False)), ((ONE, True, None, False),),
                    ((ONE, True, ROOT, True), (TWO, True, TWO, True), (THREE, False, None, False)),
                    ((None, False, ONE, False), (ALIKE[ONE], False, None, False))):
            self.assertIs(is_spans(row), True)
            self.assertIs(is_spans(value=list(row)), False)

    def test_no_rows(self):
        for row in ((None,), ((ONE, True, ONE),), ([ONE, True, ONE, True],), ((ONE, True, ONE, False),),
                    ((ONE, False, ONE, True),), ((ONE, False, ALIKE[ONE], False),), ((TWO, True, ONE, True),),
                    ((None, True, ONE, True),), ((ONE, True, None, True),), ((ONE, 1, TWO, True),),
                    ((ONE, True, TWO, 0),), ((ONE, None, TWO, True),), ((None, None, None, None),),
                    ((((0, 1), 1), True, TWO, True),), ((((-2, 0, 1), 1), True, TWO, True),), (((1, 1), True, TWO, True),),
                    ((ONE, True, ((4, 0, -4, 0, 1), 1), True),), ((list(ONE), True, TWO, True),), (ALL[0], ALL[0]),
                    ((None, False, None, False), (ONE, True, ONE, True)), ((ONE, True, ONE, True), ALL[0]),
                    ((ONE, True, TWO, True), (TWO, False, THREE, True)), ((ONE, True, TWO, False), (TWO, True, TWO, True)),
                    ((ONE, True, TWO, True), (ALIKE[TWO], True, TWO, True)),
                    ((TWO, True, TWO, True), (ONE, True, ONE, True)), ((ONE, True, THREE, True), (TWO, True, None, False)),
                    ((ONE, True, THREE, False), (TWO, False, None, False)), ((TWO, False, THREE, False), (ONE, False, TWO, False)),
                    ((ONE, False, TWO, True), (ALIKE[TWO], False, None, False)),
                    ((ONE, True, None, False), (TWO, True, TWO, True)), ((ONE, True, TWO, True), None)):
            self.assertIs(is_spans(row), False, row)
        for value in ANY_VALUES:
            self.assertIs(is_spans(value), value == ())

    def test_wrong_rows(self):
        pairs = (spans_both, spans_either, same_spans, until_of, since_of)
        for value in ANY_VALUES:
            if value == ():
                continue
            for call in pairs:
                self.assert_error(InvalidSpans, {"at": 0}, call, value, value)
                self.assert_error(InvalidSpans, {"at": 1}, call, ALL, value)
            self.assert_error(InvalidSpans, {"at": 0}, spans_without, value)
            for call in (in_spans, soon_of, lately_of):
                self.assert_error(InvalidSpans, {"at": 0}, call, value, None)
        for value in ANY_VALUES:
            if value not in (ONE, ROOT):
                self.assert_error(InvalidPlace, {"at": 0}, in_spans, ALL, value)
            if value not in (1, 2, 10 ** 12) or isinstance(value, bool):
                for call in (soon_of, lately_of):
                    self.assert_error(InvalidSize, {"word": "n"}, call, (), value)
        for value in (((0, 1), 1), ((-2, 0, 1), 1)):
            self.assert_error(InvalidPlace, {"at": 0}, in_spans, ALL, value)


class TestTimes(BellCase):

    def setUp(self):
        self.enterContext(localcontext(prec=80))

    def test_in_by_hand(self):
        row = ((ONE, False, ROOT, True), (THREE, True, None, False))
        for place, wanted in ((ONE, False), (ALIKE[ONE], False), (((-6, 5), 1), True), (ROOT, True), (ALIKE[ROOT], True),
                              (TWO, False), (THREE, True), (ALIKE[THREE], True), (((-99, 1), 1), True),
                              (((-1, 2), 1), False)):
            self.assert_same(in_spans(row, place), wanted)
        self.assert_same(in_spans(one=ALL, time=ONE), True)
        self.assert_same(in_spans((), ONE), False)

    def test_same(self):
        row = ((ONE, False, ROOT, True), (THREE, True, None, False))
        other = ((ALIKE[ONE], False, ALIKE[ROOT], True), (ALIKE[THREE], True, None, False))
        self.assert_same(same_spans(row, other), True)
        for unlike in ((), ALL, ((ONE, False, ROOT, False), row[1]), ((ONE, True, ROOT, True), row[1]), row[:1], row[1:],
                       ((ONE, False, TWO, True), row[1]), (row[0], (THREE, False, None, False))):
            self.assert_same(same_spans(one=row, other=unlike), False)
            self.assert_same(same_spans(unlike, other), False)
        self.assert_same(same_spans((), ()), True)

    def test_by_hand(self):
        one = ((None, False, TWO, True),)
        other = ((ONE, True, ONE, True), (TWO, False, None, False))
        self.assert_same(spans_both(one, other), ((ONE, True, ONE, True),))
        self.assert_same(spans_either(one, other), ALL)
        self.assert_same(spans_without(other), ((None, False, ONE, False), (ONE, False, TWO, True)))
        self.assert_same(spans_without(()), ALL)
        self.assert_same(spans_without(one=ALL), ())
        # Right behind 2 the other holds at once, but the one does not hold between.
        self.assert_same(until_of(one, other), ((None, False, ONE, False),))
        self.assert_same(until_of(((None, False, None, False),), other), ALL)
        self.assert_same(until_of((), ALL), ())
        self.assert_same(until_of(ALL, ()), ())
        self.assert_same(since_of(ALL, other), ((ONE, False, None, False),))
        self.assert_same(since_of(one=((TWO, True, None, False),), other=other), ((TWO, False, None, False),))
        self.assert_same(soon_of(other, 1), ((None, False, ONE, False), (ONE, False, None, False)))
        self.assert_same(lately_of(one=other, n=1), ((ONE, False, TWO, False), (TWO, False, None, False)))
        self.assert_same(lately_of(((ONE, True, ONE, True),), 9), ((ONE, False, ((-10, 1), 1), False),))
        self.assert_same(soon_of(((ROOT, True, ROOT, True),), 1), ((((-1, 2, 1), 2), False, ROOT, False),))
        self.assert_same(soon_of(((ROOT, True, ROOT, True),), 2), ((None, False, ROOT, False),))
        self.assert_same(soon_of(((None, False, ONE, True),), 3), ((None, False, ONE, False),))

    def check(self, told, numbers_in, rows, more=()):
        """A least row has just the times of which a function of a number tells that it has them."""
        self.assertIs(is_spans(told), True)
        for number, place in samples(*rows, more=more):
            self.assert_same(in_spans(told, place), numbers_in(number))

    def test_both_either_without(self):
        rng = source(120)
        for _ in range(40):
            one, other = some_row(rng), some_row(rng)
            self.check(one[0], lambda time: is_in(one[1], time), [one, other])
            self.check(self.assert_kept(spans_both, one[0], other[0]),
                       lambda time: is_in(one[1], time) and is_in(other[1], time), [one, other])
            self.check(self.assert_kept(spans_either, one[0], other[0]),
                       lambda time: is_in(one[1], time) or is_in(other[1], time), [one, other])
            self.check(self.assert_kept(spans_without, one[0]), lambda time: not is_in(one[1], time), [one])
            self.assert_same(same_spans(one[0], other[0]), [is_in(one[1], time) for time, _ in samples(one, other)]
                             == [is_in(other[1], time) for time, _ in samples(one, other)])

    def test_until_and_since(self):
        rng = source(121)
        for _ in range(60):
            many = rng.randint(0, 4)
            chosen = sorted(rng.sample(POOL, many))
            cells = [[rng.random() < 0.6 for _ in range(2 * many + 1)] for _ in range(2)]
            one, other = [row_of(chosen, truths) for truths in cells]
            wanted = [holds_until(*cells, cell) for cell in range(2 * many + 1)]
            behind = [truths[::-1] for truths in cells]
            ahead = [holds_until(*behind, 2 * many - cell) for cell in range(2 * many + 1)]
            told = self.assert_kept(until_of, one[0], other[0])
            self.check(told, lambda time: is_in(row_of(chosen, wanted)[1], time), [one, other])
            told = self.assert_kept(since_of, one[0], other[0])
            self.check(told, lambda time: is_in(row_of(chosen, ahead)[1], time), [one, other])

    def test_soon_and_lately(self):
        rng = source(122)

        def lies_within(numbers, begin, end):
            """Whether some time of a row lies strictly between two numbers."""
            for low, _, high, _ in numbers:
                least = begin if low is None else max(low, begin)
                most = end if high is None else min(high, end)
                if least < most or (low is not None and low == high and begin < low < end):
                    return True
            return False

        for _ in range(30):
            row = some_row(rng, 2)
            for n in (1, 2, 9):
                self.check(self.assert_kept(soon_of, row[0], n), lambda time: lies_within(row[1], time, time + n),
                           [row], (n, -n))
                self.check(self.assert_kept(lately_of, row[0], n),
                           lambda time: lies_within(row[1], max(time - n, Decimal(0)), time), [row], (n, -n))

    def test_places_that_are_alike(self):
        for one in ((ONE, False, ROOT, True), (TWO, True, TWO, True), (ROOT, True, THREE, False)):
            other = (ALIKE[one[0]], one[1], ALIKE[one[2]], one[3])
            for call in (spans_both, spans_either):
                told = call((one,), (other,))
                self.assertEqual(len(told), 1)
                self.assert_same(same_spans(told, (one,)), True)
            self.assert_same(spans_both((one,), spans_without((other,))), ())
            self.assertEqual(place_order(one[0], other[0]), 0)

    def test_greatest(self):
        factors = [(-n, n + 1) for n in range(1, 5)] + [(-n, 2 * n - 1) for n in range(5, 9)]
        curves = [times(*factors[:4]), times(*factors[4:])]
        # From 1/2 to 4/5, and from 5/9 to 8/15: the spans of one row lie in those of the other.
        zeros = sorted((Fraction(-a, b), at) for at, some in enumerate((factors[:4], factors[4:])) for a, b in some)
        counts = [0, 0]
        ends = []
        for _, at in zeros:
            counts[at] += 1
            ends.append((curves[at], counts[at]))
        row = tuple((ends[2 * at], True, ends[2 * at + 1], False) for at in range(4)) + ((ONE, True, None, False),)
        self.assertIs(is_spans(row), True)
        for call in (spans_both, spans_either, until_of, since_of, same_spans):
            self.assert_soon(1, call, row, row[:3])
        for call in (soon_of, lately_of):
            self.assert_soon(1, call, row, 9)


if __name__ == "__main__":
    unittest.main()
