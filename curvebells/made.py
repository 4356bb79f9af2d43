"""Halls that are made to ring a tale: with a thing for each bell, or by one curve that passes heights."""

from curvebells.curves import curve_times
from curvebells.errors import InvalidSize, Refused
from curvebells.halls import Hall
from curvebells.heights import begun_curve, least_sides, mode_of, passing_curve, turn_places
from curvebells.rows import events_of
from curvebells.silent import need_tales
from curvebells.values import as_lot

MOST_RINGS = 4
MOST_DEGREE = 4


def own_hall(lots):
    """Some hall of at bells of mode any that rings a tale by its first ways; any value."""
    need_tales(lots)
    for number, events in enumerate(events_of(lots)):
        if any([turn > MOST_RINGS for _, turn in events]):
            raise Refused(number)
    things = []
    bells = []
    for name in names_of(lots):
        curve = (1,)
        # Each bell's thing is at 0 at the times of its own lots: the first lot at 1, the second one at 2, ..
        for number, lot in enumerate(lots):
            if name in lot:
                curve = curve_times(curve, (-number - 1, 1))
        things.append((name, (("way", curve),)))
        bells.append((name, "at", (name, 0), "any"))
    return Hall(things or [("thing", (("way", (1,)),))], bells)


def names_of(lots):
    """The lot of all names that ring."""
    return as_lot([name for lot in lots for name in lot])


def neighbours_in(lots):
    """For each name, ascending, its neighbours, ascending; of lots of one name each."""
    beside = {name: [] for name in names_of(lots)}
    for lot, behind in zip(lots, lots[1:]):
        if lot != behind:
            beside[lot[0]].append(behind[0])
            beside[behind[0]].append(lot[0])
    return {name: as_lot(beside[name]) for name in beside}


def heights_fault(lots):
    """The first fault for which no curve that passes heights rings a tale, or None; any value."""
    need_tales(lots)
    for number, lot in enumerate(lots):
        if len(lot) > 1:
            return ("lot", number)
    beside = neighbours_in(lots)
    for name in beside:
        if len(beside[name]) > 2:
            return ("three", name, beside[name])
    if beside and all([len(beside[name]) == 2 for name in beside]):
        return ("ring", told_round(beside, list(beside)[0]))
    if lots and len(beside[lots[-1][0]]) == 2:
        return ("end", lots[-1][0])
    return None


def told_round(beside, begin):
    """The names from one on, first to its lesser neighbour, each beside the one ahead, as far as there are new ones."""
    told = [begin]
    while True:
        new_ones = [name for name in beside[told[-1]] if name not in told]
        if len(new_ones) == 0:
            return tuple(told)
        told.append(new_ones[0])


def need_heights(lots):
    """Raises Refused if no curve that passes heights rings a tale; any value."""
    fault = heights_fault(lots)
    if fault is not None:
        raise Refused(fault)


def heights_order(lots):
    """The names from the lowest height on, or from the highest, the lesser of both; any value."""
    need_heights(lots)
    beside = neighbours_in(lots)
    ends = [name for name in beside if len(beside[name]) < 2]
    # The least of the ends, which are one for a single name, begins the lesser row.
    return told_round(beside, ends[0]) if ends else ()


def heights_turns(lots):
    """For each ring up, down or touch: some way through heights in this order with the fewest turns; any value."""
    order = heights_order(lots)
    return tuple([mode_of(come, side) for come, side in least_sides(lots, order)])


def heights_degree(lots):
    """0 for no lots, else one more than the fewest turns of a way through heights; any value."""
    order = heights_order(lots)
    return len(turn_places(lots, order)) + 1 if lots else 0


def heights_hall(lots):
    """Some hall of one thing with one way, at bells at unlike heights, that rings a tale; any value."""
    if heights_degree(lots) > MOST_DEGREE:
        raise InvalidSize("degree")
    if len(lots) == 0:
        return Hall([("thing", (("way", (1,)),))], ())
    order = heights_order(lots)
    if order[-1] != lots[-1][0]:
        # The other way about the last ring is at the highest one.
        order = order[::-1]
    curve, heights = passing_curve(lots, order)
    curve, heights = begun_curve(curve, heights, len(lots))
    bells = [(name, "at", ("thing", height), "any") for name, height in zip(order, heights)]
    return Hall([("thing", (("way", curve),))], bells)
