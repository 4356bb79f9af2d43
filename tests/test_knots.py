"""Promises [30] and [31]: knots, and the orders that can come out of one."""

import itertools
import unittest

from curvebells.curves import curve_minus
from curvebells.errors import InvalidCurve, InvalidOrder, InvalidPlace, InvalidSize, Refused
from curvebells.knots import (
    can_come, contact_of, forbidden_four, knot_ahead, knot_behind, knot_of, knot_there, replayed_orders, turn_curves,
    turn_degree, turn_tree,
)
from curvebells.orders import Orders
from curvebells.places import place_sides, place_sign, zero_times
from tests.helpers import ANY_VALUES, BellCase, some_curve, source, times
from tests.test_orders import known_order, some_curves

ONE = ((-1, 1), 1)
ROOT = ((-2, 0, 1), 2)


def leaves(tree):
    """All lots in a tree, left to right."""
    if len(tree) == 2 and isinstance(tree[1], tuple):
        return [leaf for one in tree[1] for leaf in leaves(one)]
    return [tree]


def contacts_in(tree, above=-1):
    """For each two lots of a tree, their contact; contacts within a knot are above its own."""
    told = {}
    if len(tree) == 2 and isinstance(tree[1], tuple):
        contact, trees = tree
        assert contact > above and len(trees) > 1
        for one in trees:
            told.update(contacts_in(one, contact))
        for one, other in itertools.combinations(trees, 2):
            for pair in itertools.product(leaves(one), leaves(other)):
                told[pair] = contact
    return told


def lies_so(order):
    """Whether four of the numbers lie as 2 4 1 3 or 3 1 4 2: the least places."""
    for places in itertools.combinations(range(len(order)), 4):
        four = [order[place] for place in places]
        shape = tuple(sorted(four).index(one) + 1 for one in four)
        if shape in ((2, 4, 1, 3), (3, 1, 4, 2)):
            return places
    return None


class TestKnots(BellCase):

    def test_example(self):
        tree = knot_of([(), (1, -2, 1), (-1, 1)], ONE)
        self.assert_same(tree, (1, ((2,), (2, ((0,), (1,))))))
        self.assert_same(knot_behind(tree), ((0,), (1,), (2,)))
        self.assert_same(knot_ahead(tree), ((2,), (0,), (1,)))
        self.assert_same(knot_there(tree), ((0, 1, 2),))

    def test_contact(self):
        for one, other, many in (((), (-1, 1), 1), ((-1, 1), (), 1), ((), (1, -2, 1), 2), ((5,), (4, 3, -3, 1), 3),
                                 ((), (2,), 0), ((0, 1), (0, 1), None), ((), (), None)):
            self.assert_same(contact_of(one, other, ONE), many)
        for place in (ROOT, ((-2, 0, 1), 1)):
            self.assert_same(contact_of(one=(4, 0, 1), other=(0, 0, 5, 0, -1), place=place), 2)
            self.assert_same(contact_of((4, 0, 0, 0, 1), (0, 0, 4), place), 2)
            self.assert_same(contact_of((4, 0, 0, 0, 1), (0, 0, 5), place), 0)

    def test_trees_by_hand(self):
        self.assert_same(knot_of([(3, 1)], ONE), (0,))
        self.assert_same(knot_of(((3, 1), (3, 1)), ONE), (0, 1))
        self.assert_same(knot_of([(3, 1), (3,), (3, 1), (4,)], ONE), (0, ((1,), (1, ((0, 2), (3,))))))
        self.assert_same(knot_there((0, ((1,), (1, ((0, 2), (3,)))))), ((1,), (0, 2, 3)))
        self.assert_same(knot_behind((0, ((1,), (1, ((0, 2), (3,)))))), ((1,), (3,), (0, 2)))
        self.assert_same(knot_of(curves=[(), (1, -2, 1), (2, -4, 2)], place=ONE), (2, ((0,), (1,), (2,))))
        for call in (knot_ahead, knot_there, knot_behind):
            self.assert_same(call((0,)), ((0,),))
            self.assert_same(call(tree=(0, 1)), ((0, 1),))
            self.assert_same(call((1, 2, 5)), ((1, 2, 5),))

    def test_three_contacts(self):
        rng = source(110)
        for _ in range(40):
            curves = some_curves(rng, 3)
            for place in (ONE, ((-2, 1), 1), ROOT):
                told = [contact_of(one, other, place) for one, other in itertools.combinations(curves, 2)]
                if None not in told:
                    self.assertEqual(sorted(told)[0], sorted(told)[1])
                    for (one, other), many in zip(itertools.combinations(curves, 2), told):
                        self.assert_same(many, zero_times(curve_minus(one, other), place))

    def test_by_the_words(self):
        rng = source(111)
        for _ in range(60):
            curves = some_curves(rng, rng.randint(1, 5))
            for place in (ONE, ((-2, 1), 1), ((-3, 1), 1), ROOT):
                tree = self.assert_kept(knot_of, curves, place)
                ahead = known_order(curves, lambda f: place_sides(f, place)[0])
                self.assert_same(tuple(leaves(tree)), ahead)
                self.assert_same(knot_ahead(tree), ahead)
                self.assert_same(knot_there(tree), known_order(curves, lambda f: place_sign(f, place)))
                self.assert_same(knot_behind(tree), known_order(curves, lambda f: place_sides(f, place)[1]))
                for (one, other), many in contacts_in(tree).items():
                    self.assert_same(contact_of(curves[one[0]], curves[other[0]], place), many)

    def test_wrong_curves_and_places(self):
        for value in (None, 3, True, "ab", [], ()):
            self.assert_error(InvalidCurve, {"at": -1}, knot_of, value, None)
        self.assert_error(InvalidCurve, {"at": 1}, knot_of, [(1,), (1, 0), None], None)
        self.assert_error(InvalidCurve, {"at": 0}, knot_of, ([1], (1,)), ONE)
        for value in ANY_VALUES:
            if value not in (ONE, ROOT):
                self.assert_error(InvalidPlace, {"at": 0}, knot_of, [(1,), ()], value)
        for value in (((0, 1), 1), ((1, 1), 1), ((-2, 0, 1), 1), ((-2, 0, 1), 3), [(-1, 1), 1], (1, 1)):
            self.assert_error(InvalidPlace, {"at": 0}, knot_of, [(1,)], value)

    def test_replayed(self):
        rng = source(112)
        for _ in range(40):
            curves = some_curves(rng, rng.randint(1, 5))
            orders = Orders(curves)
            trees = [knot_of(curves, moment) for moment in orders.table.moments]
            self.assert_same(self.assert_kept(replayed_orders, orders.orders[0], trees), orders.orders)
            self.assert_same(replayed_orders(first=orders.orders[0], trees=tuple(trees)), orders.orders)
        self.assert_same(replayed_orders(((0,), (1,)), []), (((0,), (1,)),))

    def test_replayed_refused(self):
        tree = (1, ((0,), (1,)))
        turned = (1, ((1,), (0,)))
        first = ((0,), (1,))
        self.assert_same(replayed_orders(first, [tree, turned]),
                         (first, ((0, 1),), first[::-1], ((0, 1),), first))
        self.assert_error(Refused, {"at": 0}, replayed_orders, first, [turned, turned])
        self.assert_error(Refused, {"at": 1}, replayed_orders, first, [tree, tree, tree])
        self.assert_error(Refused, {"at": 2}, replayed_orders, first, (tree, turned, (2, ((1,), (0,)))))
        self.assert_error(Refused, {"at": 0}, replayed_orders, ((0, 1),), [tree])

    def test_greatest(self):
        rng = source(113)
        base = some_curve(rng, 4, 99)
        curves = [tuple(a + b for a, b in zip(base, times((rng.randint(1, 9),), *[(-2, 0, 1)] * 2)))
                  for _ in range(5)] + [base]
        self.assert_soon(1, knot_of, curves, ROOT)
        orders = self.assert_soon(1, Orders, curves)
        trees = [knot_of(curves, moment) for moment in orders.table.moments]
        self.assert_same(replayed_orders(orders.orders[0], trees), orders.orders)


class TestOrders(BellCase):

    def test_by_hand(self):
        self.assert_same(turn_tree((0,)), (0,))
        self.assert_same(turn_tree([0, 1]), (2, ((0,), (1,))))
        self.assert_same(turn_tree((1, 0)), (1, ((0,), (1,))))
        self.assert_same(turn_tree((2, 1, 0)), (1, ((0,), (1,), (2,))))
        self.assert_same(turn_tree(order=(0, 1, 2)), (2, ((0,), (1,), (2,))))
        self.assert_same(turn_tree((1, 0, 2)), (2, ((3, ((0,), (1,))), (2,))))
        self.assert_same(turn_tree((2, 0, 1)), (1, ((2, ((0,), (1,))), (2,))))
        self.assert_same(turn_tree((3, 0, 2, 1)), (1, ((2, ((0,), (3, ((1,), (2,))))), (3,))))
        for order, degree in (((0,), 0), ((0, 1), 2), ((1, 0), 1), ((1, 0, 2), 3), ((3, 0, 2, 1), 3)):
            self.assert_same(turn_degree(order), degree)
            self.assert_same(turn_degree(order=list(order)), degree)
        for order, four in (((1, 3, 0, 2), (0, 1, 2, 3)), ((2, 0, 3, 1), (0, 1, 2, 3)), ((4, 1, 3, 0, 2), (1, 2, 3, 4)),
                            ((1, 3, 0, 4, 2), (0, 1, 2, 4)), ((0,), None), ((3, 2, 1, 0), None)):
            self.assert_same(forbidden_four(order), four)
            self.assert_same(can_come(order), four is None)
        for order in ((1, 3, 0, 2), (2, 0, 3, 1)):
            self.assertIsNone(turn_tree(order))
            self.assertIsNone(turn_degree(order))

    def test_all_orders(self):
        comes = []
        for many in range(1, 7):
            comes.append(0)
            for order in itertools.permutations(range(many)):
                four = lies_so(order)
                self.assert_same(forbidden_four(order), four)
                tree = turn_tree(order)
                self.assertEqual(tree is None, four is not None)
                if four is None:
                    comes[-1] += 1
                    self.check_tree(order, tree)
        # The great Schroeder numbers.
        self.assertEqual(comes, [1, 2, 6, 22, 90, 394])

    def check_tree(self, order, tree):
        self.assertEqual(knot_ahead(tree), tuple((at,) for at in range(len(order))))
        self.assertEqual(knot_behind(tree), tuple((at,) for at in order))
        told = contacts_in(tree, 0)
        self.assert_same(turn_degree(order), max(told.values(), default=0))
        self.assertEqual(told, least_contacts(order))

    def test_curves(self):
        for many in range(1, 6):
            for order in itertools.permutations(range(many)):
                if lies_so(order) is None:
                    for time in (1, 3):
                        curves = turn_curves(list(order), time)
                        self.assertIsInstance(curves, tuple)
                        self.assert_same(knot_of(curves, ((-time, 1), 1)), turn_tree(order))
                        self.assertLessEqual(max(len(curve) - 1 for curve in curves), turn_degree(order))
        self.assertEqual(len(set(turn_curves(order=(1, 0), time=2))), 2)

    def test_no_orders(self):
        for call in (can_come, forbidden_four, turn_tree, turn_degree, lambda order: turn_curves(order, None)):
            for value in ANY_VALUES:
                if value != (1, 0):
                    self.assert_error(InvalidOrder, {"at": 0}, call, value)
            for value in ((1, 2), (0, 0), (0, 2), (-1, 0), (0, True), (False,), (0, 1, 1), "01", ((0,), (1,)), {0: 1}):
                self.assert_error(InvalidOrder, {"at": 0}, call, value)

    def test_curves_wrong(self):
        for value in ANY_VALUES:
            if value not in (1, 2, 10 ** 12) or isinstance(value, bool):
                self.assert_error(InvalidSize, {"word": "time"}, turn_curves, (1, 3, 0, 2), value)
                self.assert_error(InvalidSize, {"word": "time"}, turn_curves, (1, 0), value)
        self.assert_error(Refused, {"at": (0, 1, 2, 3)}, turn_curves, (1, 3, 0, 2), 1)
        self.assert_error(Refused, {"at": (0, 1, 2, 4)}, turn_curves, [1, 3, 0, 4, 2], 3)

    def test_seven(self):
        for order in ((6, 5, 4, 3, 2, 1, 0), (0, 1, 2, 3, 4, 5, 6), (5, 1, 3, 0, 2, 4, 6)):
            self.assert_soon(1, can_come, order)
            self.assert_soon(1, turn_tree, order)


def least_contacts(order):
    """The least contacts from 1 on of all trees that lead so: two that turn meet oddly, by the blocks they lie in.

    Two curves meet more often than each one that does not lie in their least block that comes out as one.
    """
    blocks = []
    for low, high in itertools.combinations(range(len(order) + 1), 2):
        inner = sorted(order[low:high])
        if inner[-1] - inner[0] == high - low - 1:
            blocks.append(set(inner))
    # Blocks that overlap no other one: of these the trees are made.
    strong = [one for one in blocks if all(one <= other or other <= one or not one & other for other in blocks)]
    told = {}
    for i, j in itertools.combinations(range(len(order)), 2):
        around = sorted((one for one in strong if i in one and j in one), key=len, reverse=True)
        contact = 0
        for block in around:
            inner = [at for at in order if at in block]
            parity = parity_of(inner, strong, block)
            contact += 1
            while contact % 2 != parity:
                contact += 1
        told[((i,), (j,))] = contact
    return told


def parity_of(inner, strong, block):
    """1 if the parts of a block come out turned about, else 0."""
    parts = [one for one in strong if one < block and not any(one < other < block for other in strong)]
    first, second = sorted(parts, key=min)[:2]
    return int(inner.index(min(first)) > inner.index(min(second)))


if __name__ == "__main__":
    unittest.main()
