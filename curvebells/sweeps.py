"""Sweeps: the tales of a handle at all its worths, and the worths at which the tale breaks."""

from curvebells.branches import need_worth, worth_at
from curvebells.errors import InvalidSize
from curvebells.halls import with_bells
from curvebells.lines import runs_of
from curvebells.places import gathered_zeros, is_place, moments_of, place_among, place_order, ratio_of, ratio_place
from curvebells.places import simplest_between, zero_of
from curvebells.rows import ring_row
from curvebells.strands import Strand, cross_curve, graphs_of, tale_by

# The key of what rings at the same moments for all worths begins with this, instead of a face's number.
UNMOVED = -1


class Sweep:
    """All tales of a handle: below all breaks, at the first one, between it and the second one, and so on."""

    def __init__(self, handle):
        draw = Draw(handle)
        places, tales = draw.all_tales()
        kept = [at for at in range(len(places)) if not is_one_tale(tales[2 * at:2 * at + 3])]
        cells = [0]
        for at in kept:
            cells = cells + [2 * at + 1, 2 * at + 2]
        self.handle = handle
        self.breaks = tuple([places[at] for at in kept])
        self.tales = tuple([tales[cell] for cell in cells])

    def cell_of(self, worth):
        """The number of the tale at a worth; any value."""
        ahead, is_there = place_among(need_worth(worth), self.breaks)
        return 2 * ahead + int(is_there)

    def tale_at(self, worth):
        """The tale at a worth; any value."""
        return self.tales[self.cell_of(worth)]

    def part_of(self, worth):
        """The greatest part with a worth that has one tale throughout; any value."""
        cell = self.cell_of(worth)
        tale = self.tales[cell]
        runs = [run for run in runs_of([one == tale for one in self.tales]) if run[0] <= cell <= run[1]]
        return self.part_between(runs[0][0], runs[0][1])

    def parts_where(self, test):
        """The parts, as great as can be, of all worths whose tale passes a test."""
        return tuple([self.part_between(begin, end) for begin, end in runs_of([test(tale) for tale in self.tales])])

    def part_between(self, begin, end):
        """The part of all worths from one cell to another one."""
        low = self.breaks[(begin - 1) // 2] if begin > 0 else None
        high = self.breaks[end // 2] if end + 1 < len(self.tales) else None
        return (low, begin & 1 == 1, high, end & 1 == 1)


def is_one_tale(tales):
    """Whether all of some tales are one."""
    return all([tale == tales[0] for tale in tales])


class Draw:
    """What a handle draws: graphs, rings that it leaves as they are, and the worths at which something meets."""

    def __init__(self, handle):
        self.handle = handle
        self.graphs = graphs_of(handle)
        felt = [face[0] for face in handle.faces if face[2] != 0]
        unfelt = [bell for number, bell in enumerate(handle.hall.bells) if number not in felt]
        self.row = ring_row(with_bells(handle.hall, unfelt), handle.hall.first)
        self.unmoved = [zero_of(moment) for moment, _ in self.row]
        # Pairs of keys that are at one moment for all worths, or (worth, key, key) for one worth.
        self.twins = []
        self.meetings = []
        self.put_meetings()

    def put_meetings(self):
        """Finds what meets for which worths."""
        for f in self.graphs:
            for number, pair in enumerate(self.row):
                self.put_meeting(pair[0], self.unmoved[number], f, (UNMOVED, number))
            for other in self.graphs:
                if f < other:
                    self.put_crossings(f, other)

    def put_crossings(self, f, other):
        """Finds where two graphs meet, if they are unlike."""
        cross = cross_curve(self.graphs[f], self.graphs[other])
        if cross == ():
            self.twins = self.twins + [((f, cell), (other, cell)) for cell in range(len(self.graphs[f].is_rung))]
            return
        for moment in moments_of(cross):
            zero = zero_of(moment)
            cell = self.graphs[other].cell_at(zero)
            if self.graphs[other].is_rung[cell]:
                self.put_meeting(moment, zero, f, (other, cell))

    def put_meeting(self, moment, zero, f, key):
        """Puts what meets a graph at a moment, if the graph's bell rings there."""
        cell = self.graphs[f].cell_at(zero)
        if self.graphs[f].is_rung[cell]:
            self.meetings.append((worth_at(self.handle, f, moment), (f, cell), key))

    def all_tales(self):
        """The worths, ascending, at which something may change, and the tales of all cells that they make."""
        places = [meeting[0] for meeting in self.meetings]
        for f in self.graphs:
            for branch in self.graphs[f].branches:
                places = places + [end for end in branch[2:4] if end is not None]
        unlike = list({place: True for place in places})
        groups = gathered_zeros([zero_of(place) for place in unlike])
        ranks = {unlike[number]: rank for rank, group in enumerate(groups) for number in group}
        firsts = [unlike[group[0]] for group in groups]
        ends = [None] + firsts + [None]
        tales = []
        for rank, high in enumerate(ends[1:]):
            between = zero_of(ratio_place(simplest_between(ends[rank], high)))
            tales.append(self.tale_in(2 * rank, between, ranks))
            if high is not None:
                tales.append(self.tale_in(2 * rank + 1, zero_of(high), ranks))
        return (firsts, tales)

    def tale_in(self, cell, worth, ranks):
        """The tale at a worth in a cell; ranks tell the number of each worth at which something may change."""
        rings = {(UNMOVED, number): (pair[1], self.unmoved[number]) for number, pair in enumerate(self.row)}
        for f in self.graphs:
            graph = self.graphs[f]
            for at, branch in enumerate(graph.branches):
                low = -1 if branch[2] is None else 2 * ranks[branch[2]] + 1
                high = cell + 1 if branch[3] is None else 2 * ranks[branch[3]] + 1
                if graph.is_rung[2 * at] and low < cell < high:
                    rings[(f, 2 * at)] = ([graph.name], Strand(graph, 2 * at, worth))
                # A branch begins and ends at turns at the worths of these.
                turned = branch[3] if branch[4] > 0 else branch[2]
                if at < len(graph.turns) and graph.is_rung[2 * at + 1] and 2 * ranks[turned] + 1 == cell:
                    rings[(f, 2 * at + 1)] = ([graph.name], graph.turns[at])
        joins = [meeting[1:] for meeting in self.meetings if 2 * ranks[meeting[0]] + 1 == cell]
        return tale_by(rings, self.twins + joins)


def simplest_in(part):
    """The simplest ratio in a part, or None if it has none; any value."""
    if not is_part(part):
        raise InvalidSize("part")
    low, has_low, high, has_high = part
    ratios = [ratio_of(end) for end, is_had in ((low, has_low), (high, has_high)) if is_had]
    ratios.append(simplest_between(low, high))
    told = [(one[1], abs(one[0]), one[0]) for one in ratios if one is not None]
    if not told:
        return None
    bottom, _, top = min(told)
    return (top, bottom)


def is_part(value):
    """Whether any value is a part that is not empty."""
    if not isinstance(value, tuple) or len(value) != 4:
        return False
    low, has_low, high, has_high = value
    for end, is_had in ((low, has_low), (high, has_high)):
        if not isinstance(is_had, bool) or (is_had if end is None else not is_place(end)):
            return False
    if low is None or high is None:
        return True
    order = place_order(low, high)
    return order < 0 or (order == 0 and has_low and has_high)
