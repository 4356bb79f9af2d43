"""Orders of curves: which is less than which in each cell of the table of their differences."""

from curvebells.curves import curve_minus, first_sign, last_sign
from curvebells.cuts import curve_parts
from curvebells.halls import followed_curves
from curvebells.places import moments_of
from curvebells.tables import Table, need_curves


class Orders:
    """The order of some curves in each cell of the table of their differences."""

    def __init__(self, curves):
        need_curves(curves)
        self.curves = tuple(curves)
        pairs = unlike_pairs(self.curves)
        self.table = Table([curve_minus(self.curves[i], self.curves[j]) for i, j in pairs])
        self.orders = tuple([order_by(len(self.curves), pairs, signs) for signs in self.table.signs])


def unlike_pairs(curves):
    """The pairs of numbers of unlike curves, the lesser number first, ascending."""
    return [(i, j) for i in range(len(curves)) for j in range(i + 1, len(curves)) if curves[i] != curves[j]]


def order_by(many, pairs, signs):
    """The order of so many curves by the signs of their differences; pairs that are not told are alike."""
    ranks = [0] * many
    for (i, j), sign in zip(pairs, signs):
        if sign > 0:
            ranks[i] += 1
        if sign < 0:
            ranks[j] += 1
    # Of each curve is known how many are less; like ones have as many.
    return tuple([tuple([at for at in range(many) if ranks[at] == rank]) for rank in sorted(set(ranks))])


def thing_orders(hall, ways):
    """The orders of the followed curves; any value as the ways."""
    return Orders(followed_curves(hall, ways))


def first_order(curves):
    """The order of some curves in the first cell."""
    return order_of(curves, first_sign)


def last_order(curves):
    """The order of some curves in the last cell."""
    return order_of(curves, last_sign)


def order_of(curves, sign):
    """The order of some curves by a function that tells the sign of each difference; any value as the curves."""
    need_curves(curves)
    pairs = unlike_pairs(curves)
    return order_by(len(curves), pairs, [sign(curve_minus(curves[i], curves[j])) for i, j in pairs])


def crossings_of(curves, i, j):
    """At how many moments the difference of two of some curves changes its sign."""
    need_curves(curves)
    apart = curve_minus(curves[i], curves[j])
    if len(apart) == 0:
        return 0
    return sum([len(moments_of(plain)) for times, plain in curve_parts(apart) if times & 1 == 1])


def leaders_of(orders):
    """The first lots of all cells of an Orders, of neighbouring like ones one."""
    leaders = []
    for order in orders.orders:
        if order[:1] != tuple(leaders[-1:]):
            leaders.append(order[0])
    return tuple(leaders)


def turns_between(lots, i, j):
    """The greatest length of a row i j i .. or j i j .. that some of the lots have, each just one of both."""
    turns = []
    for lot in lots:
        if (i in lot) != (j in lot) and turns[-1:] != [i in lot]:
            turns.append(i in lot)
    return len(turns)
