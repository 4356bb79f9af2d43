"""Pieces of stays: for worths that lie near enough to one another, stretches of time for each face."""

from curvebells.cuts import NOUGHT
from curvebells.halls import with_bells
from curvebells.places import moments_of, ratio_against, zero_against, zero_of, zero_order
from curvebells.ratios import middle_ratio, ratio_order, simplest_ratio
from curvebells.rows import ring_row
from curvebells.strands import is_one_graph
from curvebells.tables import ratio_between


class Ring:
    """A ring at all worths of a piece: of some bells, from its first to its last moment; what its stretch leaves out.

    Ahead and behind are moments that the stretch must not have.
    """

    def __init__(self, bells, first, last, ahead, behind):
        self.bells = bells
        self.first = first
        self.last = last
        self.ahead = ahead
        self.behind = behind
        self.stretch = None


def pieces_between(handle, graphs, low, high):
    """Pieces from one ratio to another one, between which the tale is one, and no bell that always rings turns."""
    pieces = []
    open_ones = [(low, high)]
    while open_ones:
        begin, end = open_ones.pop()
        rows = rows_between(handle, graphs, begin, end)
        if rows is None:
            middle = middle_ratio(begin, end)
            open_ones = open_ones + [(middle, end), (begin, middle)]
        else:
            pieces.append((begin, end, rows))
    return tuple(pieces)


def rows_between(handle, graphs, low, high):
    """The rows of one piece, or None if it is too long."""
    rings = {}
    for f in graphs:
        put_drawn_rings(rings, graphs, f, low, high)
    put_unmoved_rings(rings, handle)
    if not put_stretches(unlike_rings(rings)):
        return None
    rows = []
    for f, face in enumerate(handle.faces):
        if f in graphs:
            rows.append(drawn_row(graphs[f], rings, f, low, high))
        elif face[2] != 0 or face[1] == ():
            rows.append(((None, 0),))
        else:
            rows.append(unmoved_row(face[1], rings, f))
    return tuple(rows)


def unlike_rings(rings):
    """All rings of a dict, each once: ascending by their first moments."""
    order = []
    for ring in list(rings.values()):
        # Rings of several bells may be one.
        if ring not in order:
            at = len([one for one in order if zero_order(one.first, ring.first) <= 0])
            order.insert(at, ring)
    return order


def put_drawn_rings(rings, graphs, f, low, high):
    """Puts the rings of a graph, by (face, cell); those of a graph that is there already are the same."""
    graph = graphs[f]
    for other in graphs:
        if other < f and is_one_graph(graphs[other], graph):
            for cell in range(len(graph.is_rung)):
                if graph.is_rung[cell] and (other, cell) in rings:
                    rings[(f, cell)] = rings[(other, cell)]
                    rings[(f, cell)].bells = (*rings[(f, cell)].bells, graph.name)
    for at, branch in enumerate(graph.branches):
        if graph.is_rung[2 * at] and (f, 2 * at) not in rings:
            ends = [graph.zero_on(2 * at, worth) for worth in (low, high)]
            if None not in ends:
                first, last = ends if branch[4] > 0 else ends[::-1]
                rings[(f, 2 * at)] = Ring((graph.name,), first, last, graph.turns[:at][-1:], graph.turns[at:at + 1])


def put_unmoved_rings(rings, handle):
    """Puts the rings of faces that do not feel the handle, by (face, moment)."""
    felt = [face[0] for face in handle.faces if face[2] != 0]
    unfelt = [bell for number, bell in enumerate(handle.hall.bells) if number not in felt]
    for moment, lot in ring_row(with_bells(handle.hall, unfelt), handle.hall.first):
        zero = zero_of(moment)
        ring = Ring(lot, zero, zero, [], [])
        for f, face in enumerate(handle.faces):
            if handle.hall.bells[face[0]][0] in lot:
                put_unmoved_ring(rings, f, face[1], ring)


def put_unmoved_ring(rings, f, face, ring):
    """Puts a ring for a face, if this is nought there: by the number of its moment."""
    zeros = [zero_of(moment) for moment in moments_of(face)]
    for at, zero in enumerate(zeros):
        if zero_order(zero, ring.first) == 0:
            rings[(f, at)] = ring
            ring.ahead = ring.ahead + zeros[:at][-1:]
            ring.behind = ring.behind + zeros[at + 1:at + 2]


def put_stretches(order):
    """Gives ascending rings stretches, those of unlike bells apart; whether there are such."""
    groups = grouped_rings(order)
    if groups is None:
        return False
    bounds = [None]
    for group, behind in zip(groups, groups[1:]):
        bounds.append(ratio_between(last_of(group), behind[0].first))
    for group, low, high in zip(groups, bounds, [*bounds[1:], None]):
        for ring in group:
            ring.stretch = (time_ahead(ring, low), time_behind(ring, high))
    return True


def grouped_rings(order):
    """Ascending rings in groups that are apart; None if rings of unlike bells are not."""
    groups = []
    for ring in order:
        if not groups or zero_order(last_of(groups[-1]), ring.first) < 0:
            groups.append([ring])
        elif len(ring.bells) == 1 and groups[-1][0].bells == ring.bells:
            # Rings of one bell are rings of its own, wherever they lie.
            groups[-1].append(ring)
        else:
            return None
    return groups


def last_of(group):
    """The last moment of some rings."""
    last = group[0].last
    for ring in group:
        if zero_order(last, ring.last) < 0:
            last = ring.last
    return last


def time_ahead(ring, bound):
    """A ratio ahead of a ring and behind what is ahead of it, not below a bound; None is no bound."""
    low = bound or NOUGHT
    for zero in ring.ahead:
        if zero_against(zero, low) >= 0:
            low = ratio_between(zero, ring.first)
    if low != NOUGHT:
        return low
    while ring.first.low[0] <= 0:
        ring.first.halve()
    return simplest_ratio(NOUGHT, ring.first.low)


def time_behind(ring, bound):
    """A ratio behind a ring and ahead of what is behind it, not above a bound; None is no bound."""
    high = bound
    for zero in ring.behind:
        if high is None or zero_against(zero, high) <= 0:
            high = ratio_between(ring.last, zero)
    return simplest_ratio(ring.last.high, None) if high is None else high


def unmoved_row(face, rings, f):
    """The row of a face, not (), that does not feel the handle."""
    zeros = [zero_of(moment) for moment in moments_of(face)]
    row = []
    is_silent = False
    for at, zero in enumerate(zeros):
        is_last = at + 1 == len(zeros)
        if (f, at) in rings:
            begin, end = rings[(f, at)].stretch
            # A ring may begin where the one ahead ends.
            if row[-1:] != [(begin, 2)]:
                row.append((begin, int(is_silent)))
            row.append((end, 2))
        elif not is_last and (f, at + 1) not in rings:
            row.append((ratio_between(zero, zeros[at + 1]), 1))
        # Where a ring follows, it tells the end of what is silent.
        is_silent = (f, at) not in rings
    return (*row, (None, int(is_silent)))


def drawn_row(graph, rings, f, low, high):
    """The row of a graph: about its turns it is calm, between them it rings, is silent, or is calm throughout."""
    row = []
    last = len(graph.branches) - 1
    mark = 0
    for at in range(last + 1):
        if (f, 2 * at) in rings:
            begin, end = rings[(f, 2 * at)].stretch
            row = row + [(begin, 0), (end, 2)]
        elif not graph.is_rung[2 * at]:
            begin, end = silent_stretch(graph, at, low, high)
            if begin is None or begin != end:
                row = row + [(time, told) for time, told in ((begin, 0), (end, 1)) if time is not None]
                mark = int(at == last)
    return (*row, (None, mark))


def silent_stretch(graph, at, low, high):
    """The times, None for the time 0 and no end, between which a silent branch is not calm; alike if it is calm."""
    begin = graph.turns[at - 1] if at > 0 else None
    end = graph.turns[at] if at < len(graph.turns) else None
    if begin is None and end is None:
        return (None, None)
    inner = time_on(begin, end)
    times = []
    for turn, side in ((begin, 1), (end, -1)):
        times.append(None if turn is None else calm_time(graph, at, turn, side, inner, low, high))
    return tuple(times)


def time_on(begin, end):
    """A ratio strictly between two moments, the time 0 or no end for None, one of them at least."""
    if begin is None:
        while end.low[0] <= 0:
            end.halve()
        return simplest_ratio(NOUGHT, end.low)
    return simplest_ratio(begin.high, None) if end is None else ratio_between(begin, end)


def calm_time(graph, at, turn, side, time, low, high):
    """A ratio on a branch behind a turn (1) or ahead of it (-1), up to which the graph has no worth of a piece.

    Not farther from the turn than a time on the branch.
    """
    branch = graph.branches[at]
    # The turn ends the branch at its highest worth, or its lowest one.
    worth = branch[3] if branch[4] * side < 0 else branch[2]
    is_above = ratio_against(worth, high) >= 0
    while not is_beyond(graph.worth_at(time), is_above, low, high):
        near = turn.high if side > 0 else turn.low
        if ratio_order(near, time) == -side:
            time = middle_ratio(near, time)
        turn.halve()
    return time


def is_beyond(worth, is_above, low, high):
    """Whether a worth is above the high one of two, or below the low one."""
    return ratio_order(worth, high) > 0 if is_above else ratio_order(worth, low) < 0
