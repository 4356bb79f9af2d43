"""Silent rings: where what was heard can lie in a tale that ought to ring, and the least blame for the rest."""

from curvebells.errors import InvalidHeard, InvalidSize, Refused
from curvebells.rows import event_lot, events_of, thin_lot
from curvebells.values import is_count, is_integer, is_name, is_number


def is_lot(value):
    """Whether any value is a lot of names, not empty."""
    if not isinstance(value, tuple) or len(value) == 0 or not all([is_name(name) for name in value]):
        return False
    return all([one < other for one, other in zip(value, value[1:])])


def is_name_lot(value):
    """Whether any value is a lot of names, perhaps empty."""
    return is_lot(value) or (isinstance(value, tuple) and len(value) == 0)


def is_tale(value):
    """Whether any value is a tale: a tuple of such lots."""
    return isinstance(value, tuple) and all([is_lot(lot) for lot in value])


def need_tales(*values):
    """Raises InvalidHeard for the first of any values that is no tale."""
    for at, value in enumerate(values):
        if not is_tale(value):
            raise InvalidHeard(at)


def is_part(lot, other):
    """Whether another lot has all names of a lot."""
    return len(thin_lot(lot, other)) == len(lot)


def least_laying(lots, heard):
    """The numbers of the lots at which first heard lots lie, each as early as it can, as far as they can be laid."""
    laying = []
    number = 0
    for lot in heard:
        while number < len(lots) and not is_part(lot, lots[number]):
            number += 1
        if number == len(lots):
            return laying
        laying.append(number)
        number += 1
    return laying


def stuck_at(lots, heard):
    """How many first heard lots can be laid, None if all can; any values."""
    need_tales(lots, heard)
    many = len(least_laying(lots, heard))
    return many if many < len(heard) else None


def first_laying(lots, heard):
    """The laying with each number as small as can be; any values."""
    need_laying(lots, heard)
    return tuple(least_laying(lots, heard))


def need_laying(lots, heard):
    """Raises Refused if there is no laying; any values."""
    many = stuck_at(lots, heard)
    if many is not None:
        raise Refused(many)


def last_laying(lots, heard):
    """The laying with each number as great as can be; any values."""
    need_laying(lots, heard)
    # From behind, the last number is the first.
    behind = least_laying(lots[::-1], heard[::-1])
    return tuple([len(lots) - 1 - number for number in behind[::-1]])


def may_lie(lots, heard):
    """For each heard lot all its numbers in layings, ascending; any values."""
    numbers = []
    for lot, first, last in zip(heard, first_laying(lots, heard), last_laying(lots, heard)):
        numbers.append(tuple([number for number in range(first, last + 1) if is_part(lot, lots[number])]))
    return tuple(numbers)


def count_layings(lots, heard):
    """How many layings there are; any values."""
    need_laying(lots, heard)
    # How many layings the first heard lots have among the lots so far.
    counts = [1] + [0] * len(heard)
    for lot in lots:
        laid = [many if is_part(one, lot) else 0 for one, many in zip(heard, counts)]
        counts = [1] + [many + more for many, more in zip(counts[1:], laid)]
    return counts[-1]


def silent_for_sure(lots, heard):
    """All events heard in no laying, ascending; any values."""
    laid = {}
    for lot, numbers in zip(heard, may_lie(lots, heard)):
        for number in numbers:
            for name in lot:
                laid[(name, number)] = True
    return events_where(lots, lambda name, number: (name, number) not in laid)


def events_where(lots, is_wanted):
    """All events, ascending, of which a function of the name and the lot's number tells that they are wanted."""
    events = []
    for number, pairs in enumerate(events_of(lots)):
        events = events + [(name, turn) for name, turn in pairs if is_wanted(name, number)]
    return tuple(sorted(events))


def heard_for_sure(lots, heard):
    """All events heard in each laying, ascending; any values."""
    need_laying(lots, heard)
    # Without a ring that some laying does not need, there is still this laying.
    return events_where(lots, lambda name, number: stuck_at(silenced_tale(lots, name, number), heard) is not None)


def silenced_tale(lots, name, number):
    """The tale without one ring of a bell, in the lot of this number; a lot that is then empty is left out."""
    rest = tuple([one for one in lots[number] if one != name])
    return lots[:number] + ((rest,) if rest else ()) + lots[number + 1:]


def heard_tales(lots):
    """How many unlike tales can be heard; any value."""
    need_tales(lots)
    # From each number on: a tale begins with an unlike lot, laid as early as it can.
    counts = [1]
    nexts = {}
    for number in range(len(lots) - 1, -1, -1):
        for part in parts_of(lots[number]):
            nexts[part] = counts[-1]
        counts.append(1 + sum(list(nexts.values())))
    return counts[-1]


def parts_of(lot):
    """All parts of a lot that are not empty."""
    parts = [()]
    for name in lot:
        parts = parts + [(*part, name) for part in parts]
    return parts[1:]


def alike_silences(lots, one, other):
    """Whether it sounds alike if the one event alone, or the other one alone, is silent; any values."""
    need_tales(lots)
    numbers = []
    for at, event in enumerate((one, other)):
        number = number_of_event(lots, event)
        if number is None:
            raise InvalidHeard(at + 1)
        numbers.append(number)
    return silenced_tale(lots, one[0], numbers[0]) == silenced_tale(lots, other[0], numbers[1])


def number_of_event(lots, value):
    """The number of the lot with an event, None for any value that is none."""
    if not isinstance(value, tuple) or len(value) != 2 or not is_name(value[0]) or not is_count(value[1]):
        return None
    return event_lot(lots, value[0], value[1])


def need_prices(missing, extra):
    """Raises InvalidSize for the first of any values that is no price."""
    if not is_number(missing):
        raise InvalidSize("missing")
    if not is_number(extra):
        raise InvalidSize("extra")


def pair_price(lot, heard, missing, extra):
    """The price of a lot beside a heard one, () for none."""
    both = len(thin_lot(lot, heard))
    return missing * (len(lot) - both) + extra * (len(heard) - both)


def steps_to(lots, heard, missing, extra, i, j):
    """The steps that lead to (i, j): (i ahead, j ahead, price of the pair)."""
    steps = []
    if i > 0 and j > 0:
        steps.append((i - 1, j - 1, pair_price(lots[i - 1], heard[j - 1], missing, extra)))
    if i > 0:
        steps.append((i - 1, j, pair_price(lots[i - 1], (), missing, extra)))
    if j > 0:
        steps.append((i, j - 1, pair_price((), heard[j - 1], missing, extra)))
    return steps


def blame_worths(lots, heard, missing, extra):
    """For each i the tuple, for each j, of the least price of first lots and first heard ones; any values."""
    need_tales(lots, heard)
    need_prices(missing, extra)
    worths = []
    for i in range(len(lots) + 1):
        worths.append([])
        for j in range(len(heard) + 1):
            steps = steps_to(lots, heard, missing, extra, i, j)
            worths[i].append(min([worths[k][m] + price for k, m, price in steps], default=0))
    return tuple([tuple(row) for row in worths])


def least_blame(lots, heard, missing, extra):
    """The least price of a telling, and some telling of it; any values."""
    worths = blame_worths(lots, heard, missing, extra)
    i, j = len(lots), len(heard)
    telling = []
    while i > 0 or j > 0:
        for k, m, price in steps_to(lots, heard, missing, extra, i, j):
            if worths[k][m] + price == worths[i][j]:
                break
        telling.append((k if k < i else None, m if m < j else None))
        i, j = k, m
    return (worths[-1][-1], tuple(telling[::-1]))


def worths_hold(lots, heard, missing, extra, price, value):
    """Whether any value shows, as worths from which no step rises too much, that no telling is below a price."""
    need_tales(lots, heard)
    need_prices(missing, extra)
    if not is_grid(value, len(lots) + 1, len(heard) + 1) or value[0][0] != 0 or value[-1][-1] < price:
        return False
    for i in range(len(lots) + 1):
        for j in range(len(heard) + 1):
            steps = steps_to(lots, heard, missing, extra, i, j)
            if not all([value[i][j] <= value[k][m] + cost for k, m, cost in steps]):
                return False
    return True


def is_grid(value, rows, columns):
    """Whether any value is a tuple of so many tuples of so many integers."""
    if not isinstance(value, tuple) or len(value) != rows:
        return False
    if not all([isinstance(row, tuple) and len(row) == columns for row in value]):
        return False
    return all([is_integer(worth) for row in value for worth in row])
