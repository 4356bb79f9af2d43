"""Promises [18] to [21], and [22] beside them: tables."""

import unittest
from fractions import Fraction

from curvebells.curves import curve_sign, curve_times
from curvebells.cuts import cut_count, cuts_hold, plain_curve, quotient_curve, sign_changes
from curvebells.errors import InvalidCurve, InvalidPlace, InvalidSize
from curvebells.places import is_place, moments_of, place_in, place_order, place_sign, ratio_against, ratio_place
from curvebells.ratios import ratio_by
from curvebells.tables import (
    Table, inner_place, joined_tables, laid_cells, only_curves, sign_row, table_holds, table_paper, time_cell,
    turned_curve, zero_cells,
)
from curvebells.told import least_degree, told_curves, told_fault
from tests.helpers import (
    ANY_VALUES, OTHER, ROOTS, WIDE, BellCase, decimal, fraction, known_sign, picture, root_order, some_curve,
    some_factors, some_known_place, source, times,
)

ROOT = ((-2, 0, 1), 2)


def known_curve(rng, degree=4):
    """A curve of known zeros, at times with double ones, a constant, or ()."""
    chance = rng.random()
    if chance < 0.1:
        return ()
    if chance < 0.2:
        return (rng.choice((-5, 1, 3)),)
    chosen = some_factors(rng, rng.randint(1, 3), degree)
    f = times((rng.choice((-2, 1)),), *chosen)
    again = rng.choice(chosen)
    return times(f, again) if len(f) + len(again) - 2 <= degree else f


def known_moment(rng):
    """A moment of a curve of degree to 4, and the number that it is."""
    while True:
        place, zero = some_known_place(rng, 4)
        if zero > 0:
            return place, zero


def known_moments(curves, numbers=()):
    """The unlike numbers above 0 at which a curve other than () is nought, and others, ascending."""
    zeros = [zero for f in curves if f for roots in ROOTS.values() for zero in roots if known_sign(f, zero) == 0]
    found = []
    for zero in sorted(zeros + list(numbers), key=decimal):
        if zero > 0 and not (found and root_order(found[-1], zero) == 0):
            found.append(zero)
    return found


def known_cells(curves, numbers=()):
    """A number in each cell."""
    moments = known_moments(curves, numbers)
    ends = [Fraction(0)] + [decimal(moment) for moment in moments]
    cells = []
    for low, moment in zip(ends, moments):
        cells += [(decimal(low) + decimal(moment)) / 2, moment]
    return cells + [decimal(ends[-1]) + 1]


class TestTable(BellCase):

    def test_by_hand(self):
        table = Table([(-2, 0, 1), (-1, 1)])
        self.assert_same(table.moments, (((-1, 1), 1), ((-2, 0, 1), 2)))
        self.assert_same(table.signs, ((-1, -1), (-1, 0), (-1, 1), (0, 1), (1, 1)))
        self.assert_same(table.curves, ((-2, 0, 1), (-1, 1)))
        self.assert_same(table.marks, ())
        self.assertEqual(len(table), 5)

    def test_nothing(self):
        for curves, signs in (([], ((),)), ([()], ((0,),)), ([(), (3,), (-3,)], ((0, 1, -1),)),
                              ([(1, 0, 1), (0, -1)], ((1, -1),)), ([(1, 1)], ((1,),)), ([(-2, -3, -1)], ((-1,),))):
            table = Table(curves, ())
            self.assert_same(table.moments, ())
            self.assert_same(table.signs, signs)
            self.assertEqual(len(table), 1)

    def test_double_zeros(self):
        self.assert_same(Table([(1, -2, 1)]).signs, ((1,), (0,), (1,)))
        self.assert_same(Table([(-1, 2, -1), (-1, 1)]).signs, ((-1, -1), (0, 0), (-1, 1)))
        self.assert_same(Table([times((0, 0, 1), (-1, 1))]).signs, ((-1,), (0,), (1,)))
        self.assert_same(Table([times((-1, 1), (-1, 1), (-1, 1))]).signs, ((-1,), (0,), (1,)))
        self.assert_same(Table([(1, -2, 1)]).moments, (((-1, 1), 1),))

    def test_moments_are_told_by_the_first_curve(self):
        shared = times((-2, 0, 1), (-5, 1))
        self.assert_same(Table([(), (7,), (2, 0, -1), shared]).moments, (ROOT, (shared, 3)))
        self.assert_same(Table([shared, (2, 0, -1)]).moments, ((shared, 2), (shared, 3)))
        self.assert_same(Table([times(shared, shared)]).moments, ((shared, 2), (shared, 3)))
        self.assert_same(Table([(2, 0, -1)], [(shared, 2)]).moments, (ROOT,))
        self.assert_same(Table([()], [(shared, 2), ROOT]).moments, ((shared, 2),))
        self.assert_same(Table([(1,)], (ROOT, (shared, 3), (shared, 2))).moments, (ROOT, (shared, 3)))

    def test_marks(self):
        table = Table(curves=[(-1, 1)], marks=[ROOT, ROOT, ((-1, 2), 1)])
        self.assert_same(table.marks, (ROOT, ROOT, ((-1, 2), 1)))
        self.assert_same(table.moments, (((-1, 2), 1), ((-1, 1), 1), ROOT))
        self.assert_same(table.signs, ((-1,), (-1,), (-1,), (0,), (1,), (1,), (1,)))
        self.assert_same(Table([], [ROOT]).signs, ((), (), ()))
        self.assert_same(Table([()], [ROOT]).signs, ((0,), (0,), (0,)))

    def test_no_curves(self):
        for value in (None, 3, True, "t", Table([])):
            self.assert_error(InvalidCurve, {"at": -1}, Table, value)
            self.assert_error(InvalidCurve, {"at": -1}, Table, value, None)
            self.assert_error(InvalidCurve, {"at": -1}, table_paper, value)
        for wrong in (None, 1, [0, 1], (1, 0), (True,), "t", ((1,),), (0, "1")):
            self.assert_error(InvalidCurve, {"at": 0}, Table, [wrong, (1,)], [None])
            self.assert_error(InvalidCurve, {"at": 2}, Table, ((), (0, 1), wrong, wrong))
            self.assert_error(InvalidCurve, {"at": 1}, table_paper, [(0, 1), wrong])

    def test_no_marks(self):
        for value in (None, 3, False, "t", Table([])):
            self.assert_error(InvalidPlace, {"at": -1}, Table, [(0, 1)], value)
        for wrong in (None, 1, [(-1, 1), 1], ((0, 1), 1), ((-2, 0, 1), 1), ((-2, 0, 1), 3), ((1, -2, 1), 1), (1, 2)):
            self.assert_error(InvalidPlace, {"at": 0}, Table, [], [wrong])
            self.assert_error(InvalidPlace, {"at": 1}, Table, [(0, 1)], (ROOT, wrong, None))

    def test_any_value(self):
        for value in ANY_VALUES:
            for call in (Table, table_paper):
                try:
                    call(value)
                except InvalidCurve as error:
                    self.assertIsInstance(error.at, int)
            try:
                Table([], value)
            except InvalidPlace as error:
                self.assertIsInstance(error.at, int)

    def test_later_changes(self):
        curves, marks = [(-2, 0, 1), (-1, 1)], [ROOT]
        table = Table(curves, marks)
        before = picture(table)
        curves.append((0, 1))
        curves[0] = ()
        marks.clear()
        self.assertEqual(picture(table), before)
        self.assertEqual(picture(table), picture(Table(((-2, 0, 1), (-1, 1)), (ROOT,))))

    def test_not_iterable(self):
        with self.assertRaises(TypeError):
            iter(Table([(-1, 1)]))

    def test_known_curves(self):
        rng = source(51)
        for _ in range(80):
            curves = [known_curve(rng) for _ in range(rng.randint(0, 6))]
            marks = [known_moment(rng) for _ in range(rng.choice((0, 0, 1, 4)))]
            table = self.assert_kept(Table, curves, [mark for mark, _ in marks])
            numbers = [number for _, number in marks]
            cells = known_cells(curves, numbers)
            self.assertEqual(len(table), len(cells))
            self.assertEqual(len(table.moments), len(cells) // 2)
            wanted = tuple(tuple(known_sign(f, number) for f in curves) for number in cells)
            self.assert_same(table.signs, wanted)
            for moment, number in zip(table.moments, cells[1::2]):
                nought = [f for f in curves if f and known_sign(f, number) == 0]
                same = [mark for mark, other in marks if root_order(number, other) == 0]
                place = (plain_curve(nought[0]), moment[1]) if nought else same[0]
                self.assert_same(moment, place)
                self.assertTrue(place_sign((nought + [moment[0]])[0], moment) == 0 and is_place(moment))
                self.assertEqual(known_sign(moment[0], number), 0)


class TestCells(BellCase):

    def test_rows_by_hand(self):
        table = Table([(-2, 0, 1), (-1, 1), (), (4,)])
        self.assert_same(sign_row(table, 0), (-1, -1, -1, 0, 1))
        self.assert_same(sign_row(table=table, number=2), (0, 0, 0, 0, 0))
        self.assert_same(sign_row(table, 3), (1, 1, 1, 1, 1))
        self.assert_same(zero_cells(table, 0), (3,))
        self.assert_same(zero_cells(table=table, number=1), (1,))
        self.assert_same(zero_cells(table, 2), (1, 3))
        self.assert_same(zero_cells(table, 3), ())
        self.assert_same(zero_cells(Table([()]), 0), ())
        self.assert_same(zero_cells(Table([(1, -2, 1)], [ROOT]), 0), (1,))

    def test_numbers(self):
        table = Table([(-2, 0, 1), (-1, 1)])
        for number in (2, -1, True, False, None, "0", (0,), 10 ** 9):
            self.assert_error(InvalidSize, {"word": "number"}, sign_row, table, number)
            self.assert_error(InvalidSize, {"word": "number"}, zero_cells, table, number)
        for value in ANY_VALUES:
            if value not in (0, 1) or isinstance(value, bool):
                self.assert_error(InvalidSize, {"word": "number"}, sign_row, table, value)
                self.assert_error(InvalidSize, {"word": "number"}, zero_cells, table, value)
            if value != 0 or isinstance(value, bool):
                self.assert_error(InvalidSize, {"word": "cell"}, inner_place, Table([()]), value)

    def test_inner_place(self):
        table = Table([(-2, 0, 1), (-1, 1)])
        self.assert_same(inner_place(table, 0), ((-1, 2), 1))
        self.assert_same(inner_place(table, 1), ((-1, 1), 1))
        self.assert_same(inner_place(table, 2), ((-4, 3), 1))
        self.assert_same(inner_place(table, 3), ROOT)
        self.assert_same(inner_place(table=table, cell=4), ((-2, 1), 1))
        self.assert_same(inner_place(Table([]), 0), ((-1, 1), 1))
        self.assert_same(inner_place(Table([], [ROOT]), 0), ((-1, 1), 1))
        for cell in (5, -1, True, None, "0", 10 ** 6, [0]):
            self.assert_error(InvalidSize, {"word": "cell"}, inner_place, table, cell)

    def test_time_cell(self):
        table = Table([(-2, 0, 1), (-1, 1)])
        for time, cell in ((((-1, 2), 1), 0), (((-1, 1), 1), 1), (((-7, 5), 1), 2), (((0, -2, 0, 1), 3), 3),
                           (((-3, 0, 1), 2), 4)):
            self.assert_same(time_cell(table, time), cell)
        self.assert_same(time_cell(table=Table([]), time=ROOT), 0)
        for value in ANY_VALUES + (((0, 1), 1), ((-2, 0, 1), 1), ((-2, 0, 1), 3), (3, 2), [(-1, 1), 1]):
            if value != ((-1, 1), 1) and value != ((-2, 0, 1), 2):
                self.assert_error(InvalidPlace, {"at": 0}, time_cell, table, value)

    def test_known_curves(self):
        rng = source(52)
        for _ in range(40):
            curves = [known_curve(rng) for _ in range(rng.randint(1, 5))]
            marks = [known_moment(rng)[0] for _ in range(rng.choice((0, 2)))]
            table = Table(curves, marks)
            for number, f in enumerate(curves):
                row = sign_row(table, number)
                self.assert_same(row, tuple(signs[number] for signs in table.signs))
                self.assert_same(zero_cells(table, number),
                                 tuple(cell for cell in range(1, len(table), 2) if row[cell] == 0))
            for cell, signs in enumerate(table.signs):
                place = inner_place(table, cell)
                self.assertEqual(tuple(place_sign(f, place) for f in curves), signs)
                self.assert_same(time_cell(table, place), cell)
                if cell % 2 == 1:
                    self.assert_same(place, table.moments[cell // 2])
                else:
                    self.assertEqual(len(place[0]), 2)
                if 0 < cell:
                    self.assertEqual(place_order(inner_place(table, cell - 1), place), -1)
            time, number = known_moment(rng)
            signs = table.signs[time_cell(table, time)]
            self.assertEqual(signs, tuple(known_sign(f, number) for f in curves))


class TestWhole(BellCase):

    def test_joined(self):
        one, other = Table([(-1, 1), ()], [ROOT]), Table([(2, 0, -1)], [((-1, 2), 1), ROOT])
        joined = self.assert_kept(joined_tables, one, other)
        self.assert_same(joined.curves, ((-1, 1), (), (2, 0, -1)))
        self.assert_same(joined.marks, (ROOT, ((-1, 2), 1), ROOT))
        self.assertEqual(picture(joined), picture(Table(joined.curves, joined.marks)))
        self.assertEqual(len(joined_tables(other=Table([]), one=Table([]))), 1)

    def test_only_curves(self):
        table = Table([(-1, 1), (), (2, 0, -1), (1, -2, 1)], [((-1, 2), 1)])
        for numbers in ([2, 0], (0,), (), [3, 1, 3], range(0)):
            part = only_curves(table, tuple(numbers))
            self.assertEqual(picture(part), picture(Table([table.curves[number] for number in numbers])))
            self.assertEqual(picture(only_curves(table=table, numbers=list(numbers))), picture(part))
        self.assert_same(only_curves(table, [2, 0]).curves, ((2, 0, -1), (-1, 1)))
        self.assert_same(only_curves(table, [2, 0]).marks, ())

    def test_laid_cells_by_hand(self):
        fine, coarse = Table([(-2, 0, 1), (-1, 1)]), Table([(-2, 0, 1)])
        self.assert_same(laid_cells(fine, coarse), (0, 0, 0, 1, 2))
        self.assert_same(laid_cells(fine=fine, coarse=Table([(-1, 1)])), (0, 1, 2, 2, 2))
        self.assert_same(laid_cells(fine, fine), (0, 1, 2, 3, 4))
        self.assert_same(laid_cells(fine, Table([()])), (0, 0, 0, 0, 0))
        self.assert_same(laid_cells(fine, Table([], [((0, -2, 0, 1), 3)])), (0, 0, 0, 1, 2))
        self.assertIsNone(laid_cells(coarse, fine))
        self.assertIsNone(laid_cells(Table([]), coarse))
        self.assertIsNone(laid_cells(fine, Table([(-3, 1)])))
        self.assertIsNone(laid_cells(fine, Table([(-1, 2)])))
        self.assert_same(laid_cells(Table([]), Table([()])), (0,))

    def test_parts_of_a_joined_table(self):
        rng = source(53)
        for _ in range(40):
            one, other = [Table([known_curve(rng) for _ in range(rng.randint(0, 3))],
                                [known_moment(rng)[0] for _ in range(rng.choice((0, 2)))]) for _ in range(2)]
            joined, turned = joined_tables(one, other), joined_tables(other, one)
            many = len(one.curves)
            back = only_curves(joined, range(many))
            self.assertEqual(picture(back), picture(Table(one.curves)))
            self.assertEqual(len(joined), len(turned))
            self.assertEqual([signs[many:] + signs[:many] for signs in joined.signs], list(turned.signs))
            for coarse, begin in ((one, 0), (other, many)):
                cells = self.assert_kept(laid_cells, joined, coarse)
                self.assertEqual(len(cells), len(joined))
                for cell, lain in enumerate(cells):
                    self.assertEqual(joined.signs[cell][begin:][:len(coarse.curves)], coarse.signs[lain])
                    self.assertEqual(time_cell(coarse, inner_place(joined, cell)), lain)
            times_of_one = [time_cell(one, moment) % 2 for moment in joined.moments]
            self.assertEqual(laid_cells(one, joined) is None, 0 in times_of_one)

    def test_turned_curve(self):
        self.assert_same(turned_curve((1, 2, 3), 2), (3, 2, 1))
        self.assert_same(turned_curve((1, 2, 3), 4), (0, 0, 3, 2, 1))
        self.assert_same(turned_curve(curve=(0, 0, 3), degree=2), (3,))
        self.assert_same(turned_curve((0, 5), 3), (0, 0, 5))
        self.assert_same(turned_curve((7,), 0), (7,))
        self.assert_same(turned_curve((), 0), ())
        self.assert_same(turned_curve((), 12), ())
        for degree in (1, 0, -1, True, None, "2", (2,), 10 ** 3 * -1):
            self.assert_error(InvalidSize, {"word": "degree"}, turned_curve, (1, 2, 3), degree)
        for degree in (-1, False, None, [0]):
            self.assert_error(InvalidSize, {"word": "degree"}, turned_curve, (), degree)
        for value in ANY_VALUES:
            if value not in (1, 2, 10 ** 12) or isinstance(value, bool):
                self.assert_error(InvalidSize, {"word": "degree"}, turned_curve, (0, 1), value)

    def test_turned_cells_are_from_behind(self):
        rng = source(54)
        for _ in range(40):
            curves = [known_curve(rng) for _ in range(rng.randint(1, 4))]
            degree = rng.randint(4, 12)
            turned = Table([turned_curve(f, degree) for f in curves])
            self.assertEqual(turned.signs, Table(curves).signs[::-1])
            for f in curves:
                one = ratio_by(rng.randint(1, 9), rng.randint(1, 9))
                self.assertEqual(curve_sign(turned_curve(f, degree), (one[1], one[0])), curve_sign(f, one))


def is_paper(curves, value):
    """Whether spans and cuts of the right kinds are the paper of a table, by the words of the promise."""
    spans, cuts = value
    for low, high, g, numbers in spans:
        if fraction(low) <= 0 or fraction(low) > fraction(high) or plain_curve(g) != g or len(g) < 2:
            return False
        if any(curves[number] == () or quotient_curve(curves[number], g) is None for number in numbers):
            return False
        ends = [curve_sign(g, low), curve_sign(g, high)]
        if ends != [0, 0] if low == high else (0 in ends or sign_changes(g, low, high) != 1):
            return False
    for one, other in zip(spans, spans[1:]):
        if fraction(one[1]) >= fraction(other[0]):
            return False
    for number, (f, some) in enumerate(zip(curves, cuts)):
        if f == ():
            if some is not None:
                return False
            continue
        plain = plain_curve(f)
        if not cuts_hold(plain, (0, 1), None, some):
            return False
        if cut_count(plain, (0, 1), None, some) != len([span for span in spans if number in span[3]]):
            return False
    return True


CURVES = ((-2, 0, 1), (-1, 1), (), (4,), (2, -2, -1, 1))
PAPER = (
    (((1, 1), (1, 1), (-1, 1), (1, 4)), ((5, 4), (3, 2), (-2, 0, 1), (0, 4))),
    ((), (), None, (), ((5, 4),)),
)
ROWS = ((-1, -1, -1, 0, 1), (-1, 0, 1, 1, 1), (0, 0, 0, 0, 0), (1, 1, 1, 1, 1), (1, 0, -1, 0, 1))


class TestPaper(BellCase):

    def test_by_hand(self):
        self.assert_same(table_holds(CURVES, PAPER), ROWS)
        self.assert_same(table_holds(curves=list(CURVES), value=PAPER), ROWS)
        self.assertTrue(is_paper(CURVES, PAPER))
        self.assert_same(table_holds([], ((), ())), ())
        self.assert_same(table_holds([(3,), ()], ((), ((), None))), ((1,), (0,)))
        self.assert_same(table_holds([(1, 0, 1)], ((), (((1, 1),),))), ((1,),))
        self.assert_same(table_holds([(1, -2, 1)], ((((1, 2), (2, 1), (-1, 1), (0,)),), ((),))), ((1, 0, 1),))

    def changed(self, span, at, value):
        """The paper with another thing in one of its spans."""
        spans = list(PAPER[0])
        spans[span] = spans[span][:at] + (value,) + spans[span][at + 1:]
        return (tuple(spans), PAPER[1])

    def test_changed_spans(self):
        for span, at, value in (
                (0, 0, (1, 2)), (0, 0, (2, 1)), (0, 1, (2, 1)), (0, 1, (5, 4)), (0, 0, [1, 1]), (0, 0, (2, 2)),
                (0, 0, 1), (0, 0, None), (0, 1, (3, 3)), (0, 1, None),
                (0, 2, (1, -1)), (0, 2, (-2, 2)), (0, 2, (1, 1)), (0, 2, ()), (0, 2, (1,)), (0, 2, None), (0, 2, [-1, 1]),
                (0, 2, (-2, 0, 1)), (0, 2, (2, -2, -1, 1)),
                (0, 3, ()), (0, 3, (1,)), (0, 3, (4,)), (0, 3, (4, 1)), (0, 3, (1, 1, 4)), (0, 3, (1, 2, 4)),
                (0, 3, (1, 3, 4)), (0, 3, (0, 1, 4)), (0, 3, (1, 5)), (0, 3, (-1, 1, 4)), (0, 3, [1, 4]), (0, 3, None),
                (0, 3, (True, 4)), (0, 3, 1), (0, 3, ((1, 4),)),
                (1, 0, (1, 1)), (1, 0, (3, 4)), (1, 0, (-3, 2)), (1, 0, (3, 2)), (1, 1, (7, 5)), (1, 1, (5, 4)),
                (1, 2, (2, 0, -1)), (1, 2, (-4, 0, 2)), (1, 2, (2, -2, -1, 1)), (1, 3, (0,)), (1, 3, (0, 1, 4))):
            value = self.changed(span, at, value)
            self.assertIsNone(table_holds(CURVES, value), (span, at, value))
        self.assert_same(table_holds(CURVES, self.changed(1, 1, (9, 1))), ROWS)
        self.assert_same(table_holds(CURVES, self.changed(1, 0, (11, 10))), ROWS)

    def test_zero_at_an_end(self):
        self.assertIsNone(table_holds([(-1, 1)], ((((1, 2), (1, 1), (-1, 1), (0,)),), ((),))))
        self.assertIsNone(table_holds([(-1, 1)], ((((1, 1), (3, 2), (-1, 1), (0,)),), ((),))))
        self.assertIsNone(table_holds([(-1, 1)], ((((0, 1), (3, 2), (-1, 1), (0,)),), ((),))))
        self.assertIsNone(table_holds([(0, -1, 1)], ((((1, 2), (1, 1), (0, -1, 1), (0,)),), ((),))))
        # t t - 3 t + 2 is 0 at 2, and has one change from 1/2 to 2.
        self.assertIsNone(table_holds([(2, -3, 1)], ((((1, 2), (2, 1), (2, -3, 1), (0,)),
                                                     ((5, 2), (3, 1), (2, -3, 1), (0,))), (((3, 2),),))))
        # A first moment at 0 is none.
        self.assertIsNone(table_holds([(0, 1)], ((((0, 1), (0, 1), (0, 1), (0,)),), ((),))))
        self.assert_same(table_holds([(0, 1)], ((), ((),))), ((1,),))

    def test_order_of_spans(self):
        spans = PAPER[0]
        for other in ((spans[1], spans[0]), (spans[0],), (spans[1],), (), spans + spans[1:], spans[:1] + spans):
            self.assertIsNone(table_holds(CURVES, (other, PAPER[1])))
        f = times((-1, 1), (-3, 1))
        first, second = ((1, 2), (2, 1), f, (0,)), ((2, 1), (4, 1), f, (0,))
        self.assertIsNone(table_holds([f], ((first, second), (((2, 1),),))))
        later = ((9, 4), (4, 1), f, (0,))
        self.assert_same(table_holds([f], ((first, later), (((2, 1),),))), ((1, 0, -1, 0, 1),))

    def test_one_moment_told_twice(self):
        f, g = (-2, 0, 1), (-3, 0, 2)
        low, high = ((7, 5), (3, 2), f, (0,)), ((6, 5), (13, 10), g, (1,))
        self.assert_same(table_holds([f, g], ((high, low), ((), ()))), ((-1, -1, -1, 0, 1), (-1, 0, 1, 1, 1)))
        self.assertIsNone(table_holds([f, f], (((7, 5), (71, 50), f, (0,)), ((143, 100), (3, 2), f, (1,)))))
        twice = (((7, 5), (17, 12), f, (0,)), ((17, 12), (3, 2), f, (1,)))
        self.assertIsNone(table_holds([f, f], (twice, ((), ()))))

    def test_changed_cuts(self):
        for number, value in ((0, None), (0, []), (0, ((1, 1), (1, 1))), (0, ((0, 1),)), (0, ((-1, 1),)), (0, 0),
                              (1, None), (2, ()), (2, ((1, 1),)), (2, 0), (2, False), (3, None), (3, ((0, 1),)),
                              (4, ()), (4, ((2, 1),)), (4, None), (4, [(5, 4)]), (4, ((5, 4), (5, 4)))):
            cuts = PAPER[1][:number] + (value,) + PAPER[1][number + 1:]
            self.assertIsNone(table_holds(CURVES, (PAPER[0], cuts)), (number, value))
        for number, value in ((0, ((1, 1),)), (1, ((1, 1),)), (1, ((1, 2), (7, 1))), (3, ((1, 1),)), (4, ((11, 10),))):
            cuts = PAPER[1][:number] + (value,) + PAPER[1][number + 1:]
            self.assert_same(table_holds(CURVES, (PAPER[0], cuts)), ROWS)

    def test_forms(self):
        spans, cuts = PAPER
        for value in ((spans,), (spans, cuts, ()), [spans, cuts], (list(spans), cuts), (spans, list(cuts)),
                      (spans, cuts[:4]), (spans, cuts + ((),)), (spans, None), (None, cuts), (cuts, spans),
                      ((list(spans[0]), spans[1]), cuts), ((spans[0][:3], spans[1]), cuts),
                      ((spans[0] + (0,), spans[1]), cuts), ((None, spans[1]), cuts)):
            self.assertIsNone(table_holds(CURVES, value))
        for value in ANY_VALUES:
            self.assertIsNone(table_holds(CURVES, value))
            self.assertIsNone(table_holds(CURVES, (value, cuts)))
            self.assertIsNone(table_holds(CURVES, (spans, value)))
            self.assertIsNone(table_holds(CURVES, ((value,), cuts)))
            self.assertIsNone(table_holds(CURVES, (spans, (value,) * 5)))
            for at in range(4):
                if value != (1, 1):
                    self.assertIsNone(table_holds(CURVES, self.changed(0, at, value)))

    def test_a_paper_with_too_few_moments(self):
        self.assertIsNone(table_holds([(-1, 1)], ((), ((),))))
        self.assertIsNone(table_holds([(-1, 1)], ((), (((1, 1),),))))
        self.assertIsNone(table_holds([(-1, 1), (-2, 2)], ((((1, 1), (1, 1), (-1, 1), (0,)),), ((), ()))))

    def test_no_span_without_a_curve(self):
        self.assertIsNone(table_holds([(1,)], ((((1, 1), (1, 1), (-1, 1), ()),), ((),))))
        self.assertIsNone(table_holds([], ((((1, 1), (1, 1), (-1, 1), ()),), ())))

    def test_papers_that_need_shorter_spans(self):
        for curves in ([WIDE[0], OTHER[0]], [(-1, 0, 4)], [(-1, 0, 4), (2, 0, -1)], [(-1, 0, 10 ** 12)],
                       [(1, -10 ** 6), (1, -2 * 10 ** 6, 10 ** 12), (-1, 0, 10 ** 12)]):
            self.assertTrue(is_paper(curves, table_paper(curves)))
            rows = tuple(sign_row(Table(curves), number) for number in range(len(curves)))
            self.assert_same(table_holds(curves, table_paper(curves)), rows)

    def test_no_curves_at_all(self):
        self.assert_error(InvalidCurve, {"at": -1}, table_holds, None, ((), ()))
        self.assert_error(InvalidCurve, {"at": 0}, table_holds, [(1, 0)], None)

    def test_table_paper(self):
        rng = source(55)
        for _ in range(60):
            curves = [known_curve(rng) for _ in range(rng.randint(0, 4))]
            paper = self.assert_kept(table_paper, curves)
            self.assertEqual(paper, table_paper(tuple(curves)))
            self.assertTrue(is_paper(curves, paper))
            table = Table(curves)
            rows = tuple(sign_row(table, number) for number in range(len(curves)))
            self.assert_same(self.assert_kept(table_holds, curves, paper), rows)
            self.assertEqual(len(paper[0]), len(table.moments))
            for span, moment in zip(paper[0], table.moments):
                self.assertTrue(ratio_against(moment, span[0]) >= 0 >= ratio_against(moment, span[1]))
                self.assert_same(span[3], tuple(number for number, f in enumerate(curves)
                                                if f and place_sign(f, moment) == 0))

    def test_told_rows_and_tables(self):
        rng = source(56)
        for _ in range(60):
            curves = [known_curve(rng) for _ in range(rng.randint(0, 5))]
            table = Table(curves)
            rows = [sign_row(table, number) for number in range(len(curves))]
            self.assertIsNone(told_fault(rows))
            told = told_curves(rows)
            again = Table(told)
            self.assert_same(tuple(sign_row(again, number) for number in range(len(told))), tuple(rows))
            self.assertEqual([ratio_against(moment, (at + 1, 1)) for at, moment in enumerate(again.moments)],
                             [0] * len(again.moments))
            for f, row in zip(told, rows):
                self.assertEqual(least_degree(row), len(f) - 1 if f else None)
            self.assert_same(table_holds(told, table_paper(told)), tuple(rows))

    def test_soon_at_the_limits(self):
        rng = source(57)
        base = times((-1, 2), (-3, 5), (-7, 3), (-11, 2))
        groups = [
            [some_curve(rng, 4, 10 ** 12 - 1) for _ in range(12)],
            [times(*[(-rng.randint(1, 99), rng.randint(1, 99)) for _ in range(4)]) for _ in range(12)],
            [(10 ** 9 * base[0] + k,) + tuple(10 ** 9 * a for a in base[1:]) for k in range(12)],
            [(-10 ** 12 + 1 + k, 0, 0, 0, 10 ** 12 - 7 - k) for k in range(12)],
        ]
        for curves in groups:
            marks = [place for f in groups[2][:2] for place in moments_of(f)][:6]
            table = self.assert_soon(3, Table, curves, marks)
            self.assertIsNotNone(self.assert_soon(3, laid_cells, table, Table(curves)))
            self.assert_soon(3, time_cell, table, marks[0])
            many = len([0 for f in curves for _ in moments_of(f)])
            self.assertTrue(len(table.moments) <= many + len(marks))
        many = [curve_times(times(*[(-rng.randint(1, 99), rng.randint(1, 99)) for _ in range(3)]), (1, -9))
                for _ in range(48)]
        paper = self.assert_soon(3, table_paper, many)
        rows = self.assert_soon(3, table_holds, many, paper)
        table = Table(many)
        self.assertEqual(rows, tuple(sign_row(table, number) for number in range(48)))


class TestMoments(BellCase):

    def test_place_in_tells_moments(self):
        rng = source(58)
        for _ in range(30):
            curves = [known_curve(rng) for _ in range(3)]
            for moment in Table(curves).moments:
                first = [f for f in curves if f and place_in(f, moment) is not None][0]
                self.assert_same(moment, place_in(first, moment))
        self.assert_same(Table([(-3, 2)]).moments, (ratio_place((3, 2)),))


if __name__ == "__main__":
    unittest.main()
