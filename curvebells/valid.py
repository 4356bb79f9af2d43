"""Valid sayings: free stairs that hold in all halls at all times, with papers of it, or a hall where one does not."""

from curvebells.halls import Hall
from curvebells.kinds import Kinds
from curvebells.sayings import Band, ever_holds
from curvebells.stairs import Stair, renumbered_row
from curvebells.told import told_curves
from curvebells.values import is_number


def in_all_halls(stair):
    """(True, some paper) if a free stair holds in all halls, else (False, some hall, some moment of it)."""
    kinds = Kinds(stair)
    # For each kind the one ahead and the signs at the moment between; the first ones have none ahead.
    ahead = {kind: None for kind in kinds.first_ones()}
    order = list(ahead)
    at = 0
    while at < len(order):
        if kinds.is_lost(order[at]):
            hall, moment = failing_hall(stair, kinds.names, signs_to(ahead, order[at]))
            return (False, hall, moment)
        for there, kind in kinds.following(order[at]):
            if kind not in ahead:
                ahead[kind] = (order[at], there)
                order.append(kind)
        at += 1
    return (True, tuple(sorted(order)))


def signs_to(ahead, kind):
    """The signs of all names, by cells, up to a kind."""
    cells = [kind[0]]
    while ahead[kind] is not None:
        kind, there = ahead[kind]
        cells = cells + [there, kind[0]]
    return cells[::-1]


def failing_hall(stair, names, cells):
    """(hall, moment) where a stair does not hold: things with these signs by cells."""
    curves = told_curves([tuple(row) for row in zip(*cells)])
    hall = Hall([(name, (("way", curve),)) for name, curve in zip(names, curves)], ())
    denied = Stair((*stair.rows, ("not", len(stair.rows) - 1)))
    return (hall, ever_holds(Band(hall), denied)[1])


def follows_from(one, other):
    """The same of the saying that another stair holds wherever a stair does."""
    many = len(one.rows)
    behind = [many + at for at in range(len(other.rows))]
    rows = list(one.rows) + [renumbered_row(row, behind) for row in other.rows]
    return in_all_halls(Stair([*rows, ("not", many - 1), ("or", len(rows), len(rows) - 1)]))


def valid_holds(stair, value):
    """Whether any value is a paper that a free stair holds in all halls."""
    kinds = Kinds(stair)
    if not isinstance(value, tuple) or not all([is_kind(kinds, kind) for kind in value]):
        return False
    known = {kind: True for kind in value}
    if not all([kind in known for kind in kinds.first_ones()]):
        return False
    for kind in known:
        if kinds.is_lost(kind) or not all([led in known for _, led in kinds.following(kind)]):
            return False
    return True


def is_kind(kinds, value):
    """Whether any value is a kind."""
    if not isinstance(value, tuple) or len(value) != 3 or not isinstance(value[2], bool):
        return False
    signs, bits, _ = value
    if not isinstance(signs, tuple) or len(signs) != len(kinds.names):
        return False
    if not isinstance(bits, tuple) or len(bits) != len(kinds.timed):
        return False
    return all([is_sign(sign) for sign in signs]) and all([isinstance(bit, bool) for bit in bits])


def is_sign(value):
    """Whether any value is -1, 0 or 1."""
    return value == -1 or (is_number(value) and value < 2)
