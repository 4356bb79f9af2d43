"""Strands: rings of a handle's bells as the worth is drawn, each one along a graph."""

from curvebells.branches import branch_mode, face_at, graph_branches, graph_turns, hum_worth
from curvebells.curves import curve_minus, curve_scaled, curve_worth, without_end
from curvebells.cuts import NOUGHT, inner_cut, plain_curve
from curvebells.places import halve_longer, span_order, zero_against, zero_among, zero_of, zeros_of
from curvebells.ratios import middle_ratio, ratio_by
from curvebells.values import as_lot


class Graph:
    """The graph of a face that feels the handle; its cells are the branches and, between them, the turns."""

    def __init__(self, handle, f):
        bell, a, c, j = handle.faces[f]
        self.a = a
        self.c = c
        self.j = j
        self.name = handle.hall.bells[bell][0]
        self.turns = [zero_of(turn[0]) for turn in graph_turns(handle, f)]
        self.branches = graph_branches(handle, f)
        # Whether the bell rings in each cell, by its mode.
        self.is_rung = []
        mode = handle.hall.bells[bell][3]
        for branch in self.branches:
            if self.is_rung:
                self.is_rung.append(mode in ("any", "touch"))
            self.is_rung.append(mode in ("any", branch_mode(handle, f, branch[4])))
        self.known = {}

    def cell_at(self, zero):
        """The cell in which a moment lies."""
        ahead, is_there = zero_among(zero, self.turns)
        return 2 * ahead + int(is_there)

    def zero_on(self, cell, worth):
        """The moment at which the graph has a ratio as its worth on a branch, or None."""
        if worth not in self.known:
            zeros = zeros_of(plain_curve(face_at(self.a, self.c, self.j, worth)))
            later = [zero for zero in zeros if zero_against(zero, NOUGHT) > 0]
            self.known[worth] = {self.cell_at(zero): zero for zero in later}
        return self.known[worth].get(cell)

    def worth_at(self, one):
        """The ratio that is the worth at a time that is a ratio."""
        top, bottom = curve_worth(self.a, one)
        power_top, power_bottom = self.c, 1
        for _ in range(self.j):
            power_top *= one[0]
            power_bottom *= one[1]
        return ratio_by(-top * power_bottom, bottom * power_top)


def graphs_of(handle):
    """The graphs of all faces that feel the handle and are () for no worth, by the numbers of the faces."""
    felt = [f for f, face in enumerate(handle.faces) if face[2] != 0]
    return {f: Graph(handle, f) for f in felt if hum_worth(handle, f) is None}


class Strand:
    """The moment at which a graph has a worth on one branch: in an open span, or the ratio that it is."""

    def __init__(self, graph, cell, worth):
        self.graph = graph
        self.worth = worth
        at = cell // 2
        self.sign = graph.branches[at][4]
        self.turn_ahead = graph.turns[at - 1] if at > 0 else None
        self.turn_behind = graph.turns[at] if at < len(graph.turns) else None
        self.low = NOUGHT if self.turn_ahead is None else self.turn_ahead.low
        self.high = self.far_ratio() if self.turn_behind is None else self.turn_behind.high

    def far_ratio(self):
        """A ratio that is not below the moment."""
        far = inner_cut(self.low, None)
        while self.side_of(far) > 0:
            far = inner_cut(far, None)
        return far

    def side_of(self, one):
        """1, 0 or -1, as the moment is above a ratio, equal to it, or below."""
        if self.turn_ahead is not None and zero_against(self.turn_ahead, one) >= 0:
            return 1
        if self.turn_behind is not None and zero_against(self.turn_behind, one) <= 0:
            return -1
        return self.sign * zero_against(self.worth, self.graph.worth_at(one))

    def halve(self):
        """Makes the span half as long, or the ratio that the moment is."""
        middle = middle_ratio(self.low, self.high)
        side = self.side_of(middle)
        if side >= 0:
            self.low = middle
        if side <= 0:
            self.high = middle


def is_one_graph(one, other):
    """Whether two graphs have one worth at each time."""
    return cross_curve(one, other) == ()


def cross_curve(one, other):
    """The curve that is nought just at those times above 0 at which two graphs have one worth; () for one graph."""
    first = without_end([0] * other.j + list(curve_scaled(one.a, other.c)))
    return curve_minus(first, without_end([0] * one.j + list(curve_scaled(other.a, one.c))))


def tale_by(rings, joins):
    """The tale of rings, a dict of (names, strand or zero) by keys; joins are the pairs of keys of one moment."""
    groups = {key: key for key in rings}
    for one, other in joins:
        if one in rings and other in rings:
            old = groups[other]
            groups = {key: groups[one] if groups[key] == old else groups[key] for key in groups}
    lots = {}
    for key in rings:
        lots.setdefault(groups[key], []).extend(rings[key][0])
    order = []
    for key in lots:
        order.insert(rings_ahead(rings, order, rings[key][1]), key)
    return tuple([as_lot(lots[key]) for key in order])


def rings_ahead(rings, order, strand):
    """How many of ascending rings are ahead of a strand or zero, which is at no moment of theirs."""
    low = 0
    high = len(order)
    while low < high:
        middle = (low + high) // 2
        if is_ahead(rings[order[middle]][1], strand):
            low = middle + 1
        else:
            high = middle
    return low


def is_ahead(one, other):
    """Whether one of two unlike moments is ahead of the other."""
    while span_order(one, other) == 0:
        halve_longer(one, other)
    return span_order(one, other) < 0
