"""Knots: how curves that meet at a moment lie about it, as trees, and in which orders they can come out."""

from itertools import combinations

from curvebells.curves import curve_minus, curve_moved, curve_plus, without_end
from curvebells.errors import InvalidCurve, InvalidOrder, InvalidPlace, InvalidSize, Refused
from curvebells.orders import order_by, unlike_pairs
from curvebells.places import is_moment, slope_not_nought, zero_of, zero_sign
from curvebells.tables import need_curves
from curvebells.values import as_lot, is_count, is_integer, is_sequence


def contact_of(one, other, place):
    """How often the difference of two curves is nought at a place, None for one curve."""
    if one == other:
        return None
    times, _ = slope_not_nought(curve_minus(one, other), zero_of(place))
    return times


def knot_of(curves, place):
    """The tree of some curves at a moment; any values."""
    need_curves(curves)
    if len(curves) == 0:
        raise InvalidCurve(-1)
    if not is_moment(place):
        raise InvalidPlace(0)
    zero = zero_of(place)
    pairs = unlike_pairs(curves)
    contacts = {}
    signs = []
    for i, j in pairs:
        times, slope = slope_not_nought(curve_minus(curves[i], curves[j]), zero)
        sign = zero_sign(slope, zero)
        contacts[(i, j)] = times
        # Ahead of a zero that is one an odd number of times the sign is the other one.
        signs.append(-sign if times & 1 == 1 else sign)
    return tree_of(order_by(len(curves), pairs, signs), contacts)


def tree_of(order, contacts):
    """The tree of the lots of an order right ahead, by the contacts of the pairs of unlike curves."""
    if len(order) == 1:
        return order[0]
    least = min([contact_in(contacts, one, other) for one, other in zip(order, order[1:])])
    groups = [[order[0]]]
    # What has a greater contact lies side by side, so neighbours tell where a group ends.
    for one, other in zip(order, order[1:]):
        if contact_in(contacts, one, other) == least:
            groups.append([])
        groups[-1].append(other)
    return (least, tuple([tree_of(group, contacts) for group in groups]))


def contact_in(contacts, one, other):
    """The contact of the curves of two lots."""
    i, j = sorted([one[0], other[0]])
    return contacts[(i, j)]


def is_knot(tree):
    """Whether a tree is a knot, not a lot of numbers."""
    return len(tree) == 2 and isinstance(tree[1], tuple)


def knot_ahead(tree):
    """The order of a tree right ahead."""
    return leaves_of(tree, False)


def knot_behind(tree):
    """The order of a tree right behind."""
    return leaves_of(tree, True)


def leaves_of(tree, is_turned):
    """The lots of a tree in their order; knots with an odd contact are turned about, if this is told."""
    if not is_knot(tree):
        return (tree,)
    contact, trees = tree
    leaves = ()
    for one in trees:
        inner = leaves_of(one, is_turned)
        if is_turned and contact & 1 == 1:
            leaves = inner + leaves
        else:
            leaves = leaves + inner
    return leaves


def knot_there(tree):
    """The order of a tree at its moment: what is in a knot with a contact above 0 is one lot."""
    if not is_knot(tree):
        return (tree,)
    contact, trees = tree
    if contact > 0:
        return (joined_lot(leaves_of(tree, False)),)
    order = ()
    for one in trees:
        order = order + knot_there(one)
    return order


def joined_lot(lots):
    """The lot of all that is in some lots."""
    numbers = []
    for lot in lots:
        numbers = numbers + list(lot)
    return as_lot(numbers)


def replayed_orders(first, trees):
    """The orders of all cells by the first one and the trees at all moments."""
    orders = [first]
    for at, tree in enumerate(trees):
        if knot_ahead(tree) != orders[-1]:
            raise Refused(at)
        orders.append(knot_there(tree))
        orders.append(knot_behind(tree))
    return tuple(orders)


def need_order(value):
    """Raises InvalidOrder for any value that is no sequence of the numbers from 0 on, each once, or is empty."""
    if not is_sequence(value) or len(value) == 0 or not all([is_integer(number) for number in value]):
        raise InvalidOrder(0)
    if sorted(value) != list(range(len(value))):
        raise InvalidOrder(0)


def forbidden_four(order):
    """The least positions of four numbers that lie as 2 4 1 3 or 3 1 4 2, or None; any value as the order."""
    need_order(order)
    for places in combinations(range(len(order)), 4):
        a, b, c, d = [order[place] for place in places]
        if c < a < d < b or b < d < a < c:
            return places
    return None


def can_come(order):
    """Whether curves that all meet come out in an order; any value as the order."""
    return forbidden_four(order) is None


def turn_tree(order):
    """The tree with the least contacts that leads to an order, or None; any value as the order."""
    if not can_come(order):
        return None
    return least_tree(tuple(order), 1)


def least_tree(block, contact):
    """The tree that leads to a block of neighbouring numbers, with contacts from this one on."""
    if len(block) == 1:
        return block
    kept = kept_parts(block)
    if len(kept) > 1:
        even = contact + (contact & 1)
        return (even, tuple([least_tree(part, even + 1) for part in kept]))
    odd = contact + 1 - (contact & 1)
    # From behind, the parts of what is turned about stand in the order ahead.
    turned = [part[::-1] for part in kept_parts(block[::-1])]
    return (odd, tuple([least_tree(part, odd + 1) for part in turned]))


def kept_parts(block):
    """The most parts of a block of neighbouring numbers of which each one's numbers are less than the next one's."""
    parts = []
    begin = 0
    least = min(block)
    for at in range(1, len(block) + 1):
        # The least numbers stand first, up to here.
        if max(block[:at]) == least + at - 1:
            parts.append(block[begin:at])
            begin = at
    return parts


def turn_degree(order):
    """The greatest contact of the turn tree, 0 for one curve; None if there is none; any value as the order."""
    tree = turn_tree(order)
    return None if tree is None else greatest_contact(tree)


def greatest_contact(tree):
    """The greatest contact in a tree, 0 if there is none."""
    if not is_knot(tree):
        return 0
    return max([tree[0]] + [greatest_contact(one) for one in tree[1]])


def turn_curves(order, time):
    """Some curves with the turn tree at an integer time; any values."""
    need_order(order)
    if not is_count(time):
        raise InvalidSize("time")
    four = forbidden_four(order)
    if four is not None:
        raise Refused(four)
    curves = {}
    put_curves(turn_tree(order), (), curves)
    return tuple([curve_moved(curves[number], -time) for number in range(len(order))])


def put_curves(tree, base, curves):
    """Puts the curves of a tree's numbers, about the time 0, to a dict; base is what they share."""
    if not is_knot(tree):
        curves[tree[0]] = base
        return
    contact, trees = tree
    for at, one in enumerate(trees):
        # Ahead of 0 an odd power is below 0.
        step = -at if contact & 1 == 1 else at
        put_curves(one, curve_plus(base, without_end([0] * contact + [step])), curves)
