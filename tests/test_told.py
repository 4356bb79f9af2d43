"""Promise [22]: told rows of signs."""

import itertools
import unittest
from fractions import Fraction

from curvebells.cuts import count_zeros
from curvebells.errors import InvalidTable, Refused
from curvebells.told import least_degree, told_curves, told_fault
from tests.helpers import ANY_VALUES, BellCase, sign, worth


def cell_points(length):
    """A time in each cell, if the moments are 1, 2, 3 and so on."""
    return [Fraction(cell + 1, 2) for cell in range(length)]


def sound_row(row):
    """Whether some curve has a row: it does not change its sign but through 0."""
    if not any(row):
        return True
    if 0 in row[::2]:
        return False
    return all(row[cell] in (0, row[cell - 1]) and (row[cell] == 0 or row[cell - 1] == row[cell + 1])
               for cell in range(1, len(row), 2))


class TestFault(BellCase):

    def test_by_hand(self):
        self.assert_same(told_fault([(1, 1, -1)]), (0, 1))
        self.assert_same(told_fault([(1, 1, 1), (0, 0, 0)]), (None, 1))
        self.assertIsNone(told_fault([(-1, 0, 1), (1, 1, 1)]))
        self.assertIsNone(told_fault(rows=((-1, 0, 1), (0, 0, 0))))

    def test_first_fault_by_rows_then_cells(self):
        self.assert_same(told_fault([(1, 0, 1, 1, 1), (0, 0, 1, 1, -1), (1, 1, -1, 0, 0)]), (1, 0))
        self.assert_same(told_fault([(1, -1, 1, 1, 0)]), (0, 1))
        self.assert_same(told_fault([(1, 1, 1, 1, 0)]), (0, 3))
        self.assert_same(told_fault([(1, 1, 1, 0, 0)]), (0, 4))
        self.assert_same(told_fault([(1, 0, 0, 0, 1)]), (0, 2))
        self.assert_same(told_fault([(1, 1, 1, 1, -1)]), (0, 3))
        self.assert_same(told_fault([(1, -1, -1, 0, 1)]), (0, 1))
        self.assert_same(told_fault([(1, 1, 1), (1, 1, -1)]), (1, 1))

    def test_idle_cells(self):
        self.assert_same(told_fault([(0, 0, 0, 0, 0)]), (None, 1))
        self.assert_same(told_fault([(1, 0, 1, 1, 1)]), (None, 3))
        self.assert_same(told_fault([(1, 1, 1, 1, 1), (0, 0, 0, 0, 0), (1, 0, 1, 1, 1)]), (None, 3))

    def test_no_rows_and_no_moments(self):
        self.assertIsNone(told_fault([]))
        self.assertIsNone(told_fault(()))
        self.assertIsNone(told_fault([(1,)]))
        self.assertIsNone(told_fault([(0,), (-1,)]))

    def test_all_small_rows(self):
        for row in itertools.product((-1, 0, 1), repeat=5):
            sound = sound_row(row)
            other = (1, 0, 1, 0, -1)
            fault = told_fault([other, row])
            self.assertEqual(fault is None, sound, row)
            alone = told_fault([row])
            busy = [cell for cell in (1, 3) if any(row) and row[cell] == 0]
            self.assertEqual(alone is None, sound and busy == [1, 3], row)


class TestCurves(BellCase):

    def test_by_hand(self):
        self.assert_same(told_curves([(-1, 0, 1), (1, 0, 1)]), ((-1, 1), (1, -2, 1)))
        self.assert_same(told_curves(((1, 0, -1), (0, 0, 0))), ((1, -1), ()))
        self.assert_same(told_curves(rows=[(-1,), (0,), (1,)]), ((-1,), (), (1,)))
        self.assert_same(told_curves([]), ())
        self.assert_same(told_curves([(1, 0, 1, 0, -1)]), ((2, -5, 4, -1),))

    def test_rows_come_back(self):
        sound = [row for row in itertools.product((-1, 0, 1), repeat=7) if sound_row(row)]
        full = (-1, 0, 1, 0, 1, 0, -1)
        for row in sound:
            curves = told_curves([full, row, row])
            for curve, told in zip(curves, (full, row, row)):
                self.assertEqual(tuple(sign(worth(curve, at)) for at in cell_points(7)), told)
                if any(told):
                    self.assertEqual(count_zeros(curve, (0, 1)), told.count(0))
            self.assert_same(least_degree(row), len(curves[1]) - 1 if any(row) else None)

    def test_high_degree(self):
        row = (1, 0) * 5 + (1,)
        curve, = told_curves([row])
        self.assertEqual(len(curve), 11)
        self.assertEqual(tuple(sign(worth(curve, at)) for at in cell_points(11)), row)

    def test_refused(self):
        self.assert_error(Refused, {"at": (0, 1)}, told_curves, [(1, 1, -1)])
        self.assert_error(Refused, {"at": (None, 1)}, told_curves, [(1, 1, 1), (0, 0, 0)])
        self.assert_error(Refused, {"at": (1, 0)}, told_curves, [(1, 0, 1), (0, 0, 1)])


class TestDegree(BellCase):

    def test_by_hand(self):
        self.assert_same(least_degree((1, 0, 1)), 2)
        self.assert_same(least_degree((1, 0, -1)), 1)
        self.assert_same(least_degree((1, 1, 1)), 0)
        self.assert_same(least_degree(row=(-1,)), 0)
        self.assertIsNone(least_degree((0,)))
        self.assertIsNone(least_degree((0, 0, 0)))
        self.assert_same(least_degree((1, 0) * 5 + (-1,)), 9)

    def test_refused(self):
        self.assert_error(Refused, {"at": 1}, least_degree, (1, 1, -1))
        self.assert_error(Refused, {"at": 0}, least_degree, (0, 0, 1))
        self.assert_error(Refused, {"at": 2}, least_degree, (1, 0, 0, -1, 1))
        self.assert_error(Refused, {"at": 3}, least_degree, (1, 0, -1, 1, -1))


class TestNoRows(BellCase):

    def test_no_sequence(self):
        for value in (None, 3, True, "", "rows"):
            self.assert_error(InvalidTable, {"at": -1}, told_fault, value)
            self.assert_error(InvalidTable, {"at": -1}, told_curves, value)

    def test_wrong_rows(self):
        for rows, at in (
                ([()], 0), ([(1, 0)], 0), ([[1, 0, 1]], 0), ([(1, 0, 2)], 0), ([(1, 0, True)], 0), ([(False,)], 0),
                ([(1, "0", 1)], 0), ([None], 0), (["1"], 0), ([1], 0), (((1, (), 1),), 0), ([(1, 0, -2)], 0),
                ([(1, 0, 1), (1,)], 1), ([(1,), (1, 0, 1), 7], 1), ([(1, 0, 1), (1, 0, 1), (1, 0, 1, 1)], 2),
                ((1, 0, 1), 0), ([(1, 0, 1), []], 1)):
            self.assert_error(InvalidTable, {"at": at}, told_fault, rows)
            self.assert_error(InvalidTable, {"at": at}, told_curves, rows)

    def test_rows_first_then_faults(self):
        self.assert_error(InvalidTable, {"at": 1}, told_curves, [(0, 0, 1), (1, 0)])
        self.assert_error(InvalidTable, {"at": 1}, told_fault, [(0, 0, 1), (1, 2, 1)])
        self.assert_error(InvalidTable, {"at": 0}, least_degree, (0, 0, 1, 1))

    def test_wrong_row(self):
        for row in (None, [1, 0, 1], (), (1, 0), (1, 0, 2), (True,), "1", 1, (None,), ((1,),)):
            self.assert_error(InvalidTable, {"at": 0}, least_degree, row)

    def test_any_value(self):
        for value in ANY_VALUES:
            if not isinstance(value, (list, tuple)):
                self.assert_error(InvalidTable, {"at": -1}, told_fault, value)
            elif len(value) > 0:
                self.assert_error(InvalidTable, {"at": 0}, told_fault, value)
                self.assert_error(InvalidTable, {"at": 0}, told_curves, value)
            self.assert_error(InvalidTable, {"at": 0}, least_degree, value)

    def test_lists_stay(self):
        rows = [(-1, 0, 1), (1, 0, 1)]
        curves = told_curves(rows)
        self.assertEqual(rows, [(-1, 0, 1), (1, 0, 1)])
        rows.clear()
        self.assertEqual(curves, ((-1, 1), (1, -2, 1)))


if __name__ == "__main__":
    unittest.main()
