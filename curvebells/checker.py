"""The checker: whether sheets (kind, question, value) hold. Here those of rooms, handles, houses and tales."""

from curvebells.alike import parting_index
from curvebells.errors import BellError, NoName
from curvebells.halls import Hall
from curvebells.handles import Handle
from curvebells.made import heights_fault
from curvebells.rooms import Rooms, is_circle, is_weave
from curvebells.rows import ring_row, tale_of
from curvebells.sayings import Band
from curvebells.sheets import is_told_sheet
from curvebells.silent import is_part, is_tale, need_prices, need_tales, pair_price, stuck_at, worths_hold
from curvebells.stamps import is_road, need_steps
from curvebells.stays import stay_holds
from curvebells.values import is_integer, is_lot_below, is_name_row, is_number, is_same, is_sequence
from curvebells.watchers import heard_by, is_point, known_points, need_point, need_some, need_watchers
from curvebells.weaves import is_barred, is_fence, need_told, need_wish, passed_by


def has_rooms(question, many):
    """Whether a question has so many things, rooms first."""
    return len(question) == many and isinstance(question[0], Rooms)


def is_coming(question, value):
    """Whether a value is a weave that comes."""
    return has_rooms(question, 1) and is_weave(question[0], value)


def is_round(question, value):
    """Whether a value is a circle."""
    return has_rooms(question, 1) and is_circle(question[0], value)


def is_joined(question, value):
    """Whether a value is a road from one step to another one."""
    return has_rooms(question, 3) and is_road(question[0], question[1], question[2], value)


def is_open(question, value):
    """Whether three weaves have one step ahead of another one, at once with it, behind it."""
    if not has_rooms(question, 3) or not isinstance(value, tuple) or len(value) != 3:
        return False
    rooms, one, other = question
    need_steps(rooms, one, other)
    if not all([is_weave(rooms, weave) for weave in value]):
        return False
    first, second, third = [level_of(weave, one) - level_of(weave, other) for weave in value]
    return first < 0 and second == 0 and third > 0


def level_of(weave, step):
    """The number of the level of a weave in which a step stands."""
    return [step in level for level in weave].index(True)


def is_meeting(question, value):
    """Whether a weave passes a standing with told cells."""
    if not has_rooms(question, 2):
        return False
    rooms, told = question
    need_told(rooms, told)
    if not is_weave(rooms, value):
        return False
    names = [name for name, _ in rooms.rooms]
    places = [(names.index(name), cell) for name, cell in told]
    return any([all([standing[place] == cell for place, cell in places]) for standing in passed_by(rooms, value)])


def is_kept_apart(question, value):
    """Whether a triple shows that no weave passes a standing with told cells."""
    return has_rooms(question, 2) and is_barred(question[0], question[1], value)


def is_passing_by(question, value):
    """Whether a weave passes no standing of a wish."""
    if not has_rooms(question, 2):
        return False
    rooms, wish = question
    need_wish(rooms, wish)
    return is_weave(rooms, value) and not any([standing in wish for standing in passed_by(rooms, value)])


def is_fenced(question, value):
    """Whether a value is a fence of a wish."""
    return has_rooms(question, 2) and is_fence(question[0], question[1], value)


def is_stay(question, value):
    """Whether a stay shows a tale."""
    if len(question) != 4 or not isinstance(question[0], Handle):
        return False
    shown = stay_holds(question[0], question[1], question[2], value)
    return shown is not None and is_same(question[3], shown)


def need_known(question):
    """Raises an error if a question of four things is no houses, watchers, points and point; whether it has houses."""
    houses, watchers, some, point = question
    if not is_sequence(houses) or len(houses) == 0 or not all([isinstance(band, Band) for band in houses]):
        return False
    need_watchers(watchers)
    need_some(houses, some)
    need_point(houses, point)
    return True


def is_common(question, value):
    """Whether a value is an ascending closed lot of points in some that has a point."""
    if len(question) != 4 or not need_known(question) or not isinstance(value, tuple):
        return False
    houses, watchers, some, point = question
    need_some(houses, value)
    if point not in value or not all([one in some for one in value]):
        return False
    known = [known_points(houses, watcher, value) for watcher in watchers]
    return all([one in points for points in known for one in value])


def is_chain(question, value):
    """Whether pairs (number of a watcher, point), each point alike to the one ahead, lead out of some points."""
    if len(question) != 4 or not need_known(question) or not isinstance(value, tuple):
        return False
    houses, watchers, some, last = question
    for pair in value:
        if not is_link(houses, watchers, pair):
            return False
        watcher = watchers[pair[0]]
        if heard_by(houses, watcher, pair[1]) != heard_by(houses, watcher, last):
            return False
        last = pair[1]
    return last not in some


def is_link(houses, watchers, value):
    """Whether any value is a pair of the number of a watcher and a point."""
    if not isinstance(value, tuple) or len(value) != 2 or not is_number(value[0]) or value[0] >= len(watchers):
        return False
    return is_point(houses, value[1])


def is_laid(question, value):
    """Whether a value is a laying."""
    if len(question) != 2 or not isinstance(value, tuple):
        return False
    lots, heard = question
    need_tales(lots, heard)
    if len(value) != len(heard) or not is_lot_below(value, len(lots)):
        return False
    return all([is_part(lot, lots[number]) for lot, number in zip(heard, value)])


def is_stuck(question, value):
    """Whether a value is how many first heard lots can be laid, not all."""
    if len(question) != 2:
        return False
    many = stuck_at(question[0], question[1])
    return many is not None and is_same(value, many)


def is_cheaper(question, value):
    """Whether a telling is cheaper than a price."""
    if len(question) != 5 or not is_integer(question[4]):
        return False
    lots, heard, missing, extra, price = question
    need_tales(lots, heard)
    need_prices(missing, extra)
    if not is_telling(lots, heard, value):
        return False
    pairs = [(() if i is None else lots[i], () if j is None else heard[j]) for i, j in value]
    return sum([pair_price(lot, told, missing, extra) for lot, told in pairs]) < price


def is_telling(lots, heard, value):
    """Whether any value is a telling: pairs of numbers or None, each number once, ascending."""
    if not isinstance(value, tuple) or not all([isinstance(pair, tuple) and len(pair) == 2 for pair in value]):
        return False
    if not all([one is None or is_number(one) for pair in value for one in pair]) or (None, None) in value:
        return False
    ones = [pair[0] for pair in value if pair[0] is not None]
    others = [pair[1] for pair in value if pair[1] is not None]
    return ones == list(range(len(lots))) and others == list(range(len(heard)))


def is_dear(question, value):
    """Whether worths show that no telling is cheaper than a price."""
    if len(question) != 5 or not is_integer(question[4]):
        return False
    return worths_hold(question[0], question[1], question[2], question[3], question[4], value)


def parted_at(question):
    """(whether a question is two tales and names, the number of the first lot in which they differ by these)."""
    if len(question) != 3 or not is_name_row(question[2]):
        return (False, None)
    return (True, parting_index(question[0], question[1], question[2]))


def is_parted(question, value):
    """Whether a value is the number of the first lot in which two tales differ by names."""
    is_asked, at = parted_at(question)
    return is_asked and at is not None and is_same(value, at)


def is_alike(question, value):
    """Whether a value is None, and two tales do not differ by names."""
    is_asked, at = parted_at(question)
    return is_asked and at is None and value is None


def is_matched(question, value):
    """Whether a value has for each lot of a tale the number of a like one of another tale, each number once."""
    if len(question) != 2 or not isinstance(value, tuple):
        return False
    one, other = question
    need_tales(one, other)
    if len(value) != len(one) or not all([is_number(number) for number in value]):
        return False
    if sorted(value) != list(range(len(other))):
        return False
    return all([lot == other[number] for lot, number in zip(one, value)])


def is_passing_heights(question, value):
    """Whether a hall of one thing with one way passes unlike heights as a tale tells."""
    if len(question) != 1 or not is_tale(question[0]) or not isinstance(value, Hall):
        return False
    if len(value.things) != 1 or len(value.things[0][1]) != 1:
        return False
    if not all([bell[1] == "at" and bell[3] == "any" for bell in value.bells]):
        return False
    heights = [bell[2][1] for bell in value.bells]
    return len(set(heights)) == len(heights) and tale_of(ring_row(value, value.first)) == question[0]


def is_no_heights(question, value):
    """Whether a value is the fault for which no curve passes heights as a tale tells."""
    if len(question) != 1:
        return False
    fault = heights_fault(question[0])
    return fault is not None and is_same(value, fault)


SHEETS = {
    "weave": is_coming,
    "circle": is_round,
    "road": is_joined,
    "open": is_open,
    "meets": is_meeting,
    "barred": is_kept_apart,
    "passes by": is_passing_by,
    "fence": is_fenced,
    "stay": is_stay,
    "common": is_common,
    "chain": is_chain,
    "laid": is_laid,
    "stuck": is_stuck,
    "cheaper": is_cheaper,
    "not cheaper": is_dear,
    "parted": is_parted,
    "alike": is_alike,
    "matched": is_matched,
    "heights": is_passing_heights,
    "no heights": is_no_heights,
}


def sheet_holds(kind, question, value):
    """Whether any three values are a sheet that holds."""
    if not isinstance(kind, str) or not isinstance(question, tuple):
        return False
    try:
        if kind not in SHEETS:
            return is_told_sheet(kind, question, value)
        holds = SHEETS[kind]
        return holds(question, value)
    except (BellError, NoName):
        # A question that is none has no sheet.
        return False


def is_sheet(value):
    """Whether any value is a sheet that holds."""
    return isinstance(value, tuple) and len(value) == 3 and sheet_holds(value[0], value[1], value[2])


def wrong_sheets(sheets):
    """The ascending numbers of those of any values that are no sheets that hold."""
    return tuple([number for number, sheet in enumerate(sheets) if not is_sheet(sheet)])
