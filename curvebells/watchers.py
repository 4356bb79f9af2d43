"""Watchers who hear some bells of one of several houses: what they are sure of, and what they know of one another."""

from curvebells.errors import InvalidHeard, InvalidSize
from curvebells.places import zero_of
from curvebells.rows import begins_with, thin_tale
from curvebells.sayings import need_names
from curvebells.silent import is_name_lot
from curvebells.tables import cell_place
from curvebells.truths import truth_line
from curvebells.values import is_number, is_sequence


def house_points(houses):
    """All points, ascending: (number of a house, number of lots of its row that have rung)."""
    return tuple([(house, many) for house, band in enumerate(houses) for many in range(len(band.row) + 1)])


def is_point(houses, value):
    """Whether any value is a point of some houses."""
    if not isinstance(value, tuple) or len(value) != 2 or not all([is_number(one) for one in value]):
        return False
    return value[0] < len(houses) and value[1] <= len(houses[value[0]].row)


def need_point(houses, value):
    """Raises InvalidHeard for any value that is no point of some houses."""
    if not is_point(houses, value):
        raise InvalidHeard(0)


def need_watcher(value):
    """Raises InvalidSize for any value that is no watcher: no lot of names, perhaps empty."""
    if not is_name_lot(value):
        raise InvalidSize("watcher")


def need_watchers(value):
    """Raises InvalidSize for any value that is no sequence of watchers, or an empty one."""
    if not is_sequence(value) or len(value) == 0 or not all([is_name_lot(watcher) for watcher in value]):
        raise InvalidSize("watchers")


def need_some(houses, value):
    """Raises InvalidSize for any value that is no sequence of ascending unlike points."""
    if not is_sequence(value) or not all([is_point(houses, point) for point in value]):
        raise InvalidSize("some")
    if not all([point < behind for point, behind in zip(value, value[1:])]):
        raise InvalidSize("some")


def need_said(houses, stair):
    """Raises NoName for the first name of a stair that the first house that lacks some lacks."""
    for band in houses:
        need_names(band, stair)


def point_time(houses, point):
    """The span of a point's time; any value as the point."""
    need_point(houses, point)
    row = houses[point[0]].row
    many = point[1]
    low = row[many - 1][0] if many > 0 else None
    high = row[many][0] if many < len(row) else None
    return (low, many > 0, high, False)


def heard_at(houses, watcher, point):
    """The lots that a watcher has heard by a point; any values as these."""
    need_watcher(watcher)
    need_point(houses, point)
    return heard_by(houses, watcher, point)


def heard_by(houses, watcher, point):
    """The lots that a watcher has heard by a point."""
    return thin_tale(houses[point[0]].tale[:point[1]], watcher)


def heard_fits(houses, watcher, heard):
    """All points, ascending, at which just this is heard; any values as the watcher and what he heard."""
    need_watcher(watcher)
    need_heard(houses, watcher, heard)
    told = tuple(heard)
    return tuple([point for point in house_points(houses) if heard_by(houses, watcher, point) == told])


def need_heard(houses, watcher, value):
    """Raises InvalidHeard for the first thing of any value with which no house's heard tale goes on."""
    if not is_sequence(value):
        raise InvalidHeard(-1)
    tales = [thin_tale(band.tale, watcher) for band in houses]
    for at, lot in enumerate(value):
        tales = [tale for tale in tales if tale[at:at + 1] == (lot,)]
        if len(tales) == 0:
            raise InvalidHeard(at)


def is_always(houses, point, stair):
    """Whether a saying is true in the house at all times of a point; any value as the point."""
    need_point(houses, point)
    band = houses[point[0]]
    need_names(band, stair)
    return doubts_in(band, stair)[point[1]] is None


def doubts_in(band, stair):
    """For each point of a house None if a saying is true at all its times, else some moment at which it is false."""
    line = truth_line(band, stair.rows)
    marks = [zero_of(moment) for moment, _ in band.row]
    for zero in marks:
        line.put(zero)
    begins = [0] + [2 * line.index_of(zero) + 1 for zero in marks]
    truths = line.truths[-1]
    doubts = []
    for begin, end in zip(begins, begins[1:] + [len(truths)]):
        false_ones = [cell for cell in range(begin, end) if not truths[cell]]
        doubts.append(cell_place(line.told_places(), false_ones[0]) if false_ones else None)
    return doubts


def doubt_of(houses, watcher, heard, stair):
    """None if a watcher who heard this is sure of a saying, else (point, moment) where it is false; any values."""
    fitting = heard_fits(houses, watcher, heard)
    need_said(houses, stair)
    doubts = [doubts_in(band, stair) for band in houses]
    for house, many in fitting:
        if doubts[house][many] is not None:
            return ((house, many), doubts[house][many])
    return None


def sure_points(houses, watcher, stair):
    """All points, ascending, at which a watcher is sure of a saying; any value as the watcher."""
    need_watcher(watcher)
    need_said(houses, stair)
    doubts = [doubts_in(band, stair) for band in houses]
    some = [point for point in house_points(houses) if doubts[point[0]][point[1]] is None]
    return known_points(houses, watcher, some)


def known_points(houses, watcher, some):
    """All points, ascending, all of whose like ones for a watcher lie in some."""
    unknown = {}
    told = {point: heard_by(houses, watcher, point) for point in house_points(houses)}
    for point in told:
        if point not in some:
            unknown[told[point]] = True
    return tuple([point for point in told if told[point] not in unknown])


def knows_points(houses, watcher, some):
    """All points, ascending, at which a watcher knows that the point lies in some; any values as these."""
    need_watcher(watcher)
    need_some(houses, some)
    return known_points(houses, watcher, some)


def everybody_knows(houses, watchers, some):
    """All points, ascending, at which each watcher knows it; any values as these."""
    need_watchers(watchers)
    need_some(houses, some)
    return known_to_all(houses, watchers, some)


def known_to_all(houses, watchers, some):
    """All points, ascending, at which each watcher knows that the point lies in some."""
    known = [known_points(houses, watcher, some) for watcher in watchers]
    return tuple([point for point in house_points(houses) if all([point in points for points in known])])


def together_know(houses, watchers, some):
    """All points, ascending, for which all points that are alike to each watcher lie in some; any values as these."""
    need_watchers(watchers)
    need_some(houses, some)
    told = {}
    for point in house_points(houses):
        told[point] = [heard_by(houses, watcher, point) for watcher in watchers]
    unknown = [told[point] for point in told if point not in some]
    return tuple([point for point in told if told[point] not in unknown])


def known_levels(houses, watchers, some):
    """Some points, where everybody knows of them, where everybody knows of that .., to the first lot that stays."""
    need_watchers(watchers)
    need_some(houses, some)
    levels = [tuple(some)]
    behind = known_to_all(houses, watchers, some)
    while behind != levels[-1]:
        levels.append(behind)
        behind = known_to_all(houses, watchers, behind)
    return tuple(levels)


def common_points(houses, watchers, some):
    """The greatest lot of points in some that has all points alike to one of it for a watcher; any values as these."""
    return known_levels(houses, watchers, some)[-1]


def common_chain(houses, watchers, some, point):
    """None if a point is in common_points, else fewest pairs (watcher's number, like point) that lead out of some.

    Any values as watchers, some and the point.
    """
    need_watchers(watchers)
    need_some(houses, some)
    need_point(houses, point)
    chains = {point: ()}
    order = [point]
    at = 0
    while at < len(order):
        if order[at] not in some:
            return chains[order[at]]
        for number, led in like_points(houses, watchers, order[at]):
            if led not in chains:
                chains[led] = (*chains[order[at]], (number, led))
                order.append(led)
        at += 1
    return None


def like_points(houses, watchers, point):
    """All pairs (number of a watcher, point that is alike to a point for him)."""
    pairs = []
    for number, watcher in enumerate(watchers):
        heard = heard_by(houses, watcher, point)
        pairs = pairs + [(number, one) for one in house_points(houses) if heard_by(houses, watcher, one) == heard]
    return pairs


def when_known(houses, watcher):
    """For each house the least number of heard lots behind which only its whole heard tale fits, or None; any value."""
    need_watcher(watcher)
    tales = [thin_tale(band.tale, watcher) for band in houses]
    return tuple([parted_at(tales, tale) for tale in tales])


def parted_at(tales, tale):
    """The least number of first lots of a tale with which no other one of some tales begins, or None."""
    for many in range(len(tale) + 1):
        if all([other == tale or not begins_with(other, tale[:many]) for other in tales]):
            return many
    return None


def never_known(houses, watcher):
    """The pairs (house, other), ascending: the one's whole heard tale begins the other's longer one; any value."""
    need_watcher(watcher)
    tales = [thin_tale(band.tale, watcher) for band in houses]
    pairs = []
    for house, tale in enumerate(tales):
        for other, told in enumerate(tales):
            if told != tale and begins_with(told, tale):
                pairs.append((house, other))
    return tuple(pairs)
