"""Alike: which names part tales, and which joins of rooms say the same."""

from itertools import combinations

from curvebells.errors import InvalidHeard, InvalidRooms
from curvebells.looms import Loom, led_on
from curvebells.rows import begins_with, tale_of, thin_tale
from curvebells.silent import is_part, need_tales
from curvebells.stamps import join_road, need_weaves, step_relation
from curvebells.values import as_lot, is_sequence
from curvebells.wishes import lots_among


def need_told(tales):
    """Raises InvalidHeard for any value that is no sequence of tales."""
    if not is_sequence(tales):
        raise InvalidHeard(-1)
    need_tales(*tales)


def bells_of(tales):
    """The lot of all names that ring in some of the tales; any value."""
    need_told(tales)
    return as_lot([name for tale in tales for lot in tale for name in lot])


def clock_pairs(row, other):
    """The pairs of moments, in order, that a clock leads to one another, if both tales are equal; else None."""
    if tale_of(row) != tale_of(other):
        return None
    return tuple([(pair[0], beside[0]) for pair, beside in zip(row, other)])


def ordered_lots(names):
    """All lots of some names, the empty one too: fewer names first, then ascending."""
    placed = sorted([(len(lot), lot) for lot in [()] + lots_among(names)])
    return [lot for _, lot in placed]


def least_ones(lots, is_wanted):
    """Those of ordered lots that a function takes, and in which no other such lot lies."""
    least = []
    for lot in lots:
        if not any([is_part(one, lot) for one in least]) and is_wanted(lot):
            least.append(lot)
    return tuple(least)


def greatest_ones(lots, is_wanted):
    """Those of ordered lots that a function takes, and that lie in no other such lot; ascending."""
    greatest = []
    for lot in lots[::-1]:
        if not any([is_part(lot, one) for one in greatest]) and is_wanted(lot):
            greatest.append(lot)
    return tuple(sorted(greatest))


def is_parted(one, other, names, surely):
    """Whether names part two tales; surely: none is then a beginning of the other one."""
    heard, told = thin_tale(one, names), thin_tale(other, names)
    if surely:
        return not begins_with(heard, told) and not begins_with(told, heard)
    return heard != told


def parting_lots(one, other, *, surely=False):
    """The least lots that part two tales, fewer names first, then ascending; any values."""
    need_tales(one, other)
    return least_ones(ordered_lots(bells_of((one, other))), lambda lot: is_parted(one, other, lot, surely))


def parting_index(one, other, names):
    """The number of the first lot in which two tales, thinned to names, differ, or None; any values as the tales."""
    need_tales(one, other)
    heard, told = thin_tale(one, names), thin_tale(other, names)
    if heard == told:
        return None
    at = 0
    while heard[at:at + 1] == told[at:at + 1]:
        at += 1
    return at


def alike_lots(one, other, *, surely=False):
    """The greatest lots of names that ring which do not part two tales, ascending; any values."""
    need_tales(one, other)
    return greatest_ones(ordered_lots(bells_of((one, other))), lambda lot: not is_parted(one, other, lot, surely))


def parted_pairs(tales, surely):
    """The pairs of numbers of tales, ascending, that all names together part."""
    names = bells_of(tales)
    numbers = list(range(len(tales)))
    return [(i, j) for i, j in combinations(numbers, 2) if is_parted(tales[i], tales[j], names, surely)]


def unparted_pairs(tales, names, *, surely=False):
    """The pairs of numbers, ascending, of tales that all names part, but not these; any value as the tales."""
    pairs = parted_pairs(tales, surely)
    return tuple([(i, j) for i, j in pairs if not is_parted(tales[i], tales[j], names, surely)])


def least_lots(tales, *, surely=False):
    """The least lots that leave no pair unparted, fewer names first, then ascending; any value."""
    lots = ordered_lots(bells_of(tales))
    return least_ones(lots, lambda lot: len(unparted_pairs(tales, lot, surely=surely)) == 0)


def deaf_lots(tales, *, surely=False):
    """The greatest lots of names that ring which leave some pair unparted, ascending; any value."""
    lots = ordered_lots(bells_of(tales))
    return greatest_ones(lots, lambda lot: len(unparted_pairs(tales, lot, surely=surely)) > 0)


def need_same_rooms(one, other):
    """Raises InvalidRooms if two rooms are not equal but for their joins."""
    if one.rooms != other.rooms:
        raise InvalidRooms(1)


def weave_apart(one, other):
    """None if the same weaves come in both, else (0 or 1, the weave of fewest levels that comes in these alone)."""
    need_same_rooms(one, other)
    looms = (Loom(one), Loom(other))
    first = looms[0].none_done()
    found = shortest_apart(looms, first, (True, True), {})
    if found is None:
        return None
    done = first
    weave = []
    fits = (True, True)
    for level in found[1]:
        weave.append(looms[0].steps_at(done, level))
        fits = still_fits(looms, done, level, fits)
        done = led_on(done, level)
    return (int(fits[1]), tuple(weave))


def still_fits(looms, done, level, fits):
    """For each of two looms whether a weave that fitted so far fits with one more level."""
    return tuple([is_fit and loom.fits(done, level) for loom, is_fit in zip(looms, fits)])


def shortest_apart(looms, done, fits, known):
    """(number of levels, levels): fewest, then first, that go on to a weave of just one of both, or None."""
    if done == looms[0].many:
        return (0, ()) if fits[0] != fits[1] else None
    if (done, fits) not in known:
        ways = []
        for level in looms[0].bare_levels(done):
            behind = still_fits(looms, done, level, fits)
            rest = shortest_apart(looms, led_on(done, level), behind, known) if True in behind else None
            if rest is not None:
                ways.append((rest[0] + 1, (level, *rest[1])))
        known[(done, fits)] = min(ways, default=None)
    return known[(done, fits)]


def joins_followed(one, other):
    """For each gong, then call, of the other rooms some road of the first ones that says it, or None."""
    need_same_rooms(one, other)
    need_weaves(one)
    roads = [said_road(one, join, "at once") for join in other.gongs]
    return tuple(roads + [said_road(one, join, "ahead") for join in other.calls])


def said_road(rooms, join, relation):
    """Some road between the steps of a join, if they are so in all weaves; else None."""
    if step_relation(rooms, join[0], join[1]) != relation:
        return None
    return join_road(rooms, join[0], join[1])
