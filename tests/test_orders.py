"""Promises [28] and [29]: orders of curves, crossings, leaders and turns."""

import itertools
import unittest
from fractions import Fraction

from curvebells.curves import curve_minus, curve_plus, is_curve
from curvebells.errors import InvalidCurve, InvalidHall
from curvebells.halls import followed_curves
from curvebells.orders import (
    Orders, crossings_of, first_order, last_order, leaders_of, thing_orders, turns_between,
)
from curvebells.places import place_sign
from curvebells.tables import inner_place
from tests.helpers import ANY_VALUES, BellCase, picture, some_curve, source, times, worth
from tests.test_halls import HALL

CURVES = ((), (-1, 1), (1, -2, 1), (-1, 1), (5,))


def known_order(curves, sign):
    """The order by a function that tells the sign of each difference."""
    lots = []
    for at, curve in enumerate(curves):
        signs = [sign(curve_minus(curve, curves[lot[0]])) for lot in lots]
        if 0 in signs:
            lots[signs.index(0)].append(at)
        else:
            lots.insert(signs.count(1), [at])
    return tuple(tuple(lot) for lot in lots)


def some_curves(rng, many):
    """Curves of which some are alike, or meet at whole times, some of them often."""
    curves = []
    for _ in range(many):
        chance = rng.random()
        if curves and chance < 0.6:
            meeting = times((rng.choice((-1, 1)),), *[(-rng.randint(1, 3), 1) for _ in range(rng.randint(0, 3))])
            curves.append(curve_plus(rng.choice(curves), meeting))
        elif curves and chance < 0.7:
            curves.append(rng.choice(curves))
        else:
            curves.append(some_curve(rng, rng.randint(0, 3), 4))
    return curves


class TestOrders(BellCase):

    def test_by_hand(self):
        orders = Orders(CURVES)
        self.assert_same(orders.curves, CURVES)
        self.assert_same(orders.table.curves, (
            (1, -1), (-1, 2, -1), (1, -1), (-5,), (-2, 3, -1), (-6, 1), (2, -3, 1), (-4, -2, 1), (-6, 1)))
        self.assert_same(orders.table.marks, ())
        self.assert_same(orders.orders, (
            ((1, 3), (0,), (2,), (4,)), ((0, 1, 2, 3), (4,)), ((0,), (2,), (1, 3), (4,)), ((0,), (1, 2, 3), (4,)),
            ((0,), (1, 3), (2,), (4,)), ((0,), (1, 3), (2, 4)), ((0,), (1, 3), (4,), (2,)), ((0,), (1, 3, 4), (2,)),
            ((0,), (4,), (1, 3), (2,))))
        self.assertEqual(len(orders.orders), len(orders.table))

    def test_few(self):
        self.assert_same(Orders([]).orders, ((),))
        self.assert_same(Orders(curves=[(1, 2)]).orders, (((0,),),))
        self.assert_same(Orders([(1, 2), (1, 2)]).orders, (((0, 1),),))
        self.assert_same(Orders([(1, 2), (1, 2)]).table.curves, ())
        self.assert_same(Orders([(2,), (1,), (1,)]).orders, (((1, 2), (0,)),))
        self.assert_same(first_order([]), ())
        self.assert_same(leaders_of(Orders(())), ())

    def test_by_worths(self):
        rng = source(100)
        for _ in range(60):
            curves = some_curves(rng, rng.randint(1, 5))
            orders = self.assert_kept(Orders, curves)
            self.assert_same(orders.curves, tuple(curves))
            for cell, order in enumerate(orders.orders):
                place = inner_place(orders.table, cell)
                self.assert_same(order, known_order(curves, lambda f: place_sign(f, place)))
            self.assert_same(self.assert_kept(first_order, curves), orders.orders[0])
            self.assert_same(self.assert_kept(last_order, tuple(curves)), orders.orders[-1])
            far = [worth(f, Fraction(10 ** 6)) for f in curves]
            self.assertEqual([far[lot[0]] for lot in last_order(curves=curves)], sorted(set(far)))

    def test_wrong_curves(self):
        for call in (Orders, first_order, last_order, lambda curves: crossings_of(curves, 0, 0)):
            for value in (None, 3, True, "ab", {}, Orders([])):
                self.assert_error(InvalidCurve, {"at": -1}, call, value)
            self.assert_error(InvalidCurve, {"at": 1}, call, [(1,), (1, 0), None])
            self.assert_error(InvalidCurve, {"at": 0}, call, ([1], (1,)))
            self.assert_error(InvalidCurve, {"at": 2}, call, ((), (1,), (True,)))
        for value in ANY_VALUES:
            at = -1
            if isinstance(value, (list, tuple)):
                at = ([is_curve(one) for one in value] + [False]).index(False)
            if at in (-1, 0) and value not in ((), []) or at == 1 and len(value) > 1:
                for call in (Orders, first_order, last_order):
                    self.assert_error(InvalidCurve, {"at": at}, call, value)

    def test_things(self):
        for ways in ((0, 0, 0), (1, 0, 2)):
            self.assertEqual(picture(thing_orders(HALL, ways)), picture(Orders(followed_curves(HALL, ways))))
        self.assertEqual(picture(thing_orders(ways=(1, 0, 1), hall=HALL).curves),
                         picture(followed_curves(HALL, (1, 0, 1))))
        for value in ANY_VALUES:
            self.assert_error(InvalidHall, {"at": "ways"}, thing_orders, HALL, value)

    def test_crossings(self):
        curves = [(), times((-1, 1), (-1, 1), (-2, 1)), times((-1, 1), (-2, 0, 1)), (1, 0, 1), (), (0, 1)]
        for i, j, many in ((0, 1, 1), (1, 0, 1), (0, 2, 2), (0, 3, 0), (0, 4, 0), (3, 3, 0), (0, 5, 0)):
            self.assert_same(crossings_of(curves, i, j), many)
        self.assert_same(crossings_of(curves=[(0, 1), (1,)], i=1, j=0), 1)
        self.assert_same(crossings_of([(-1, 3, -3, 1), ()], 0, 1), 1)

    def test_crossings_and_orders(self):
        rng = source(101)
        for _ in range(60):
            curves = some_curves(rng, 4)
            orders = Orders(curves)
            for i, j in itertools.combinations(range(4), 2):
                if curves[i] == curves[j]:
                    self.assert_same(crossings_of(curves, i, j), 0)
                    continue
                places = [[number_of(order, k) for order in orders.orders[::2]] for k in (i, j)]
                ahead = [one < other for one, other in zip(*places)]
                many = sum(one != other for one, other in zip(ahead, ahead[1:]))
                self.assert_same(crossings_of(curves, i, j), many)
                self.assert_same(crossings_of(tuple(curves), j, i), many)
                # An odd number exactly if both stand the other way about at last.
                self.assertEqual(many % 2 == 1, ahead[0] != ahead[-1])

    def test_leaders(self):
        self.assert_same(leaders_of(Orders([(0, 1), (1,)])), ((0,), (0, 1), (1,)))
        self.assert_same(leaders_of(Orders([(), (1, -2, 1)])), ((0,), (0, 1), (0,)))
        self.assert_same(leaders_of(orders=Orders(CURVES)), ((1, 3), (0, 1, 2, 3), (0,)))
        rng = source(102)
        for _ in range(40):
            orders = Orders(some_curves(rng, 4))
            firsts = [order[0] for order in orders.orders]
            self.assert_same(leaders_of(orders), tuple(lot for lot, _ in itertools.groupby(firsts)))

    def test_turns(self):
        lots = ((0,), (0, 1), (1,), (1, 2), (2,), (0, 2), (1,), (0, 1, 2))
        for i, j, many in ((0, 1, 4), (1, 0, 4), (0, 2, 2), (1, 2, 3), (3, 0, 1), (3, 4, 0)):
            self.assert_same(turns_between(lots, i, j), many)
            self.assert_same(turns_between(lots=list(lots), i=i, j=j), many)
        self.assert_same(turns_between((), 0, 1), 0)
        rng = source(103)
        for _ in range(60):
            lots = [tuple(sorted(rng.sample(range(3), rng.randint(1, 3)))) for _ in range(rng.randint(0, 8))]
            rows = [[(0 in lot, 1 in lot) for lot in chosen] for many in range(len(lots) + 1)
                    for chosen in itertools.combinations(lots, many)]
            good = [len(row) for row in rows if all(one != other for one, other in row)
                    and all(one != other for one, other in zip(row, row[1:]))]
            self.assert_same(self.assert_kept(turns_between, lots, 0, 1), max(good))

    def test_greatest(self):
        rng = source(104)
        curves = [some_curve(rng, 4, 99) for _ in range(6)]
        self.assert_soon(2, Orders, curves)
        self.assert_soon(1, crossings_of, curves, 0, 5)


def number_of(order, number):
    """Where a curve stands in an order."""
    return [number in lot for lot in order].index(True)


if __name__ == "__main__":
    unittest.main()
