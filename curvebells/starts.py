"""Starts: runs from all moments and ways, which rules do alike from each, and when rules come in time for a wish."""

from curvebells.courses import Course, all_ways
from curvebells.errors import InvalidSize
from curvebells.halls import is_ways
from curvebells.lines import runs_of
from curvebells.rows import begins_with
from curvebells.runs import Run, acting_rules, next_behind, turned_ways
from curvebells.values import is_number


class Field:
    """A hall with rules, and what comes next from each start."""

    def __init__(self, ruled):
        self.ruled = ruled
        self.course = Course(ruled.hall)
        self.starts = []
        for number in range(len(self.course.moments) + 1):
            self.starts = self.starts + [(number, ways) for ways in all_ways(ruled.hall)]
        self.nexts = {start: self.led_on(start) for start in self.starts}

    def led_on(self, start):
        """(next lot, start behind it), or None."""
        number, ways = start
        ring = next_behind(self.course.rings[ways], number)
        if ring is None:
            return None
        acts = acting_rules(self.ruled, ring[2], ways, {name: 1 for name in ring[2]}, ())
        return (ring[2], (ring[0], turned_ways(self.ruled, ways, acts)))

    def tale_from(self, start):
        """The tale from a start."""
        lots = []
        while self.nexts[start] is not None:
            lot, start = self.nexts[start]
            lots.append(lot)
        return tuple(lots)


def start_standings(ruled):
    """All starts, ascending."""
    return tuple(Field(ruled).starts)


def is_start(course, value):
    """Whether any value is a start of a course."""
    if not isinstance(value, tuple) or len(value) != 2 or not is_number(value[0]):
        return False
    return value[0] <= len(course.moments) and is_ways(course.hall, value[1])


def start_of(ruled, start):
    """The run from a start; any value."""
    course = Course(ruled.hall)
    if not is_start(course, start):
        raise InvalidSize("start")
    number, ways = start
    return Run(ruled, course.moments[number - 1] if number > 0 else None, ways)


def start_names(ruled):
    """For each start a number, alike for the same tales, numbered as they first come."""
    field = Field(ruled)
    kinds = {}
    behind = {}
    # What rings next lies behind, so its kind is known already.
    for start in field.starts[::-1]:
        led = field.nexts[start]
        told = None if led is None else (led[0], behind[led[1]])
        behind[start] = kinds.setdefault(told, len(kinds))
    numbers = {}
    return tuple([numbers.setdefault(behind[start], len(numbers)) for start in field.starts])


def coming_from(ruled, lots):
    """The starts, ascending, from which some lots ring first."""
    field = Field(ruled)
    told = tuple(lots)
    return tuple([start for start in field.starts if begins_with(field.tale_from(start), told)])


def alike_hands(one, other):
    """None if from each start both have the same tale, else (first start from which not, first unlike lot)."""
    field, beside = Field(one), Field(other)
    for start in field.starts:
        tale, told = field.tale_from(start), beside.tale_from(start)
        if tale != told:
            at = 0
            while tale[at:at + 1] == told[at:at + 1]:
                at += 1
            return (start, at)
    return None


def alike_paper(one, other):
    """Some pairs of starts that show that from each start both have the same tale, or None if they have not."""
    field, beside = Field(one), Field(other)
    found = {}
    open_ones = [(start, start) for start in field.starts]
    while open_ones:
        pair = open_ones.pop()
        if pair in found:
            continue
        found[pair] = True
        led, also_led = field.nexts[pair[0]], beside.nexts[pair[1]]
        if not is_alike(led, also_led):
            return None
        if led is not None:
            open_ones.append((led[1], also_led[1]))
    return tuple(sorted(found))


def is_alike(led, other):
    """Whether of two starts none has a next lot, or both have the same one; by what comes next, or None."""
    if led is None or other is None:
        return led is None and other is None
    return led[0] == other[0]


def alike_holds(one, other, value):
    """Whether any value is such pairs."""
    field, beside = Field(one), Field(other)
    if not isinstance(value, tuple) or not all([is_start_pair(field.course, pair) for pair in value]):
        return False
    if not all([pair < behind for pair, behind in zip(value, value[1:])]):
        return False
    known = {pair: True for pair in value}
    if not all([(start, start) in known for start in field.starts]):
        return False
    for pair in value:
        led, also_led = field.nexts[pair[0]], beside.nexts[pair[1]]
        if not is_alike(led, also_led):
            return False
        if led is not None and (led[1], also_led[1]) not in known:
            return False
    return True


def is_start_pair(course, value):
    """Whether any value is a pair of starts."""
    return isinstance(value, tuple) and len(value) == 2 and all([is_start(course, start) for start in value])


def wish_comings(ruled, wish):
    """The least row of the times behind which rules must come into force so that a wish takes all that rings."""
    field = Field(ruled)
    first = ruled.hall.first
    rung = field.course.rings[first]
    tales = []
    for many in range(len(rung) + 1):
        number = rung[many - 1][0] if many > 0 else 0
        tales.append(tuple([ring[2] for ring in rung[:many]]) + field.tale_from((number, first)))
    spans = []
    for begin, end in runs_of([wish.takes(tale) for tale in tales]):
        low = rung[begin - 1][1] if begin > 0 else None
        high = rung[end][1] if end < len(rung) else None
        spans.append((low, begin > 0, high, False))
    return tuple(spans)
