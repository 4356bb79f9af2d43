"""Rooms with clocks of their own: gongs and calls between them, circles, and weaves of their steps."""

from curvebells.errors import InvalidRooms, InvalidText, NoName
from curvebells.rows import event_lot
from curvebells.sayings import Band
from curvebells.silent import is_tale
from curvebells.values import is_count, is_name, is_number, is_sequence, read_integer

MOST_ROOMS = 3
FIGURES = 4


class Rooms:
    """One to three rooms with their tales, and joins of their steps: gongs and calls."""

    def __init__(self, rooms, gongs=(), calls=()):
        if not are_rooms(rooms):
            raise InvalidRooms(0)
        many = {name: len(tale) for name, tale in rooms}
        for at, joins in enumerate((gongs, calls)):
            if not is_sequence(joins) or not all([is_join(many, join) for join in joins]):
                raise InvalidRooms(at + 1)
        self.rooms = tuple(rooms)
        self.gongs = tuple(gongs)
        self.calls = tuple(calls)

    def __eq__(self, other):
        if not isinstance(other, Rooms):
            return False
        return self.rooms == other.rooms and self.gongs == other.gongs and self.calls == other.calls

    def many_lots(self, name):
        """How many lots a room has; any value as its name."""
        for room, tale in self.rooms:
            if room == name:
                return len(tale)
        raise NoName(name)

    def lot_of(self, step):
        """The lot of a step; any value as the step."""
        for room, tale in self.rooms:
            if is_step({room: len(tale)}, step):
                return tale[step[1] - 1]
        raise NoName(step)

    def step_of(self, name, bell, turn):
        """The step at which a bell rings for the turn-th time; any values."""
        for room, tale in self.rooms:
            number = event_lot(tale, bell, turn) if room == name and is_count(turn) else None
            if number is not None:
                return (room, number + 1)
        raise NoName((name, bell, turn))

    def with_gong(self, one, other):
        """The same rooms with one gong more, behind all; any values as its steps."""
        return Rooms(self.rooms, (*self.gongs, (one, other)), self.calls)

    def with_call(self, one, other):
        """The same rooms with one call more, behind all; any values as its steps."""
        return Rooms(self.rooms, self.gongs, (*self.calls, (one, other)))

    def without_joins(self):
        """The same rooms without gongs and calls."""
        return Rooms(self.rooms)

    def text(self):
        """Rows of the rooms, the gongs and the calls, joined by line ends."""
        rows = []
        for name, tale in self.rooms:
            lots = ", ".join([" ".join(lot) for lot in tale])
            rows.append(f"room {name} {lots}" if tale else f"room {name}")
        for word, joins in (("gong", self.gongs), ("call", self.calls)):
            rows = rows + [f"{word} {one[0]} {one[1]} {other[0]} {other[1]}" for one, other in joins]
        return "\n".join(rows)

    @staticmethod
    def read(text):
        """The rooms of a text as the method text writes it; any value."""
        if not isinstance(text, str):
            raise InvalidText(-1)
        told = {"room": [], "gong": [], "call": []}
        last = "room"
        for at, row in enumerate(text.split("\n")):
            word, _, rest = row.partition(" ")
            if not may_follow(last, word):
                raise InvalidText(at)
            one = read_room(rest) if word == "room" else read_join(rest)
            if one is None:
                raise InvalidText(at)
            told[word].append(one)
            last = word
        return Rooms(told["room"], told["gong"], told["call"])


def may_follow(last, word):
    """Whether a row with a word may stand behind one with another word: rooms, then gongs, then calls."""
    words = ("room", "gong", "call")
    return word in words and words.index(last) <= words.index(word)


def read_room(text):
    """The room that the rest of a row tells, or None; its lots may be in any order within."""
    name, blank, rest = text.partition(" ")
    lots = [lot.split(" ") for lot in rest.split(", ")] if blank else []
    if not is_name(name) or not all([is_name(bell) for lot in lots for bell in lot]):
        return None
    return (name, tuple([tuple(lot) for lot in lots]))


def read_join(text):
    """The join that the rest of a row tells, or None."""
    words = text.split(" ")
    if len(words) != 4:
        return None
    names = words[::2]
    numbers = [read_integer(word) for word in words[1::2]]
    if not all([is_name(name) for name in names]) or not all([is_number(number) for number in numbers]):
        return None
    if max([len(word) for word in words[1::2]]) > FIGURES:
        return None
    return ((names[0], numbers[0]), (names[1], numbers[1]))


def are_rooms(value):
    """Whether any value is a sequence of one to three rooms of unlike names."""
    if not is_sequence(value) or not 1 <= len(value) <= MOST_ROOMS:
        return False
    if not all([isinstance(room, tuple) and len(room) == 2 and is_name(room[0]) for room in value]):
        return False
    if len(set([room[0] for room in value])) < len(value):
        return False
    return all([is_tale(room[1]) for room in value])


def is_step(many, value):
    """Whether any value is a step of rooms with so many lots."""
    if not isinstance(value, tuple) or len(value) != 2 or not is_name(value[0]) or value[0] not in many:
        return False
    return is_count(value[1]) and value[1] <= many[value[0]]


def is_join(many, value):
    """Whether any value is a pair of steps of unlike rooms with so many lots."""
    if not isinstance(value, tuple) or len(value) != 2 or not all([is_step(many, step) for step in value]):
        return False
    return value[0][0] != value[1][0]


def rooms_of(bands, gongs=(), calls=()):
    """The rooms of the tales of pairs (name, Band); any values."""
    if not is_sequence(bands) or not all([is_named_band(value) for value in bands]):
        raise InvalidRooms(0)
    return Rooms([(name, band.tale) for name, band in bands], gongs, calls)


def is_named_band(value):
    """Whether any value is a tuple (name, Band)."""
    return isinstance(value, tuple) and len(value) == 2 and is_name(value[0]) and isinstance(value[1], Band)


def steps_of(rooms):
    """All steps, room by room."""
    return [(name, number) for name, tale in rooms.rooms for number in range(1, len(tale) + 1)]


def is_ahead(rooms, one, other):
    """Whether one step leads to another one as ahead of it."""
    return (one[0] == other[0] and one[1] < other[1]) or (one, other) in rooms.calls


def is_leading(rooms, one, other):
    """Whether one step leads to another one."""
    return is_ahead(rooms, one, other) or (one, other) in rooms.gongs or (other, one) in rooms.gongs


def leads_of(rooms):
    """For each step the steps to which it leads."""
    steps = steps_of(rooms)
    return {one: [other for other in steps if is_leading(rooms, one, other)] for one in steps}


def shortest_road(leads, one, other):
    """Some road of fewest steps from a step to another one, or None; by the steps to which each one leads."""
    ahead = {one: None}
    level = [one]
    while level and other not in ahead:
        behind = []
        for step in level:
            for led in leads[step]:
                if led not in ahead:
                    ahead[led] = step
                    behind.append(led)
        level = behind
    if other not in ahead:
        return None
    road = [other]
    while road[-1] != one:
        road.append(ahead[road[-1]])
    return tuple(road[::-1])


def join_circle(rooms):
    """Some circle of fewest steps, or None."""
    leads = leads_of(rooms)
    least = None
    for one in leads:
        for other in leads[one]:
            # A circle has a step ahead somewhere: here it closes with this one.
            road = shortest_road(leads, other, one) if is_ahead(rooms, one, other) else None
            if road is not None and (least is None or len(road) < len(least)):
                least = road
    return least


def is_circle(rooms, value):
    """Whether any value is a circle."""
    if not is_unlike_steps(rooms, value):
        return False
    pairs = list(zip(value, value[1:] + value[:1]))
    if not all([is_leading(rooms, one, other) for one, other in pairs]):
        return False
    return any([is_ahead(rooms, one, other) for one, other in pairs])


def is_unlike_steps(rooms, value):
    """Whether any value is a tuple of unlike steps, not empty."""
    if not isinstance(value, tuple) or len(value) == 0:
        return False
    many = {name: len(tale) for name, tale in rooms.rooms}
    return all([is_step(many, step) for step in value]) and len(set(value)) == len(value)


def some_weave(rooms):
    """The weave in which each step stands as early as it can, or None."""
    if join_circle(rooms) is not None:
        return None
    leads = leads_of(rooms)
    levels = {step: 0 for step in leads}
    is_changed = True
    while is_changed:
        is_changed = False
        for one in leads:
            for other in leads[one]:
                least = levels[one] + int(is_ahead(rooms, one, other))
                if levels[other] < least:
                    levels[other] = least
                    is_changed = True
    many = 1 + max(list(levels.values()), default=-1)
    return tuple([tuple([step for step in levels if levels[step] == level]) for level in range(many)])


def broken_join(rooms, weave):
    """The first join that a weave of the rooms without joins breaks, ("gong", i) or ("call", i), or None."""
    levels = {step: at for at, level in enumerate(weave) for step in level}
    for at, (one, other) in enumerate(rooms.gongs):
        if levels[one] != levels[other]:
            return ("gong", at)
    for at, (one, other) in enumerate(rooms.calls):
        if levels[one] >= levels[other]:
            return ("call", at)
    return None


def is_weave(rooms, value):
    """Whether any value is a weave that comes."""
    if not isinstance(value, tuple) or not all([is_level(rooms, level) for level in value]):
        return False
    for name, tale in rooms.rooms:
        numbers = [step[1] for level in value for step in level if step[0] == name]
        if numbers != list(range(1, len(tale) + 1)):
            return False
    return broken_join(rooms, value) is None


def is_level(rooms, value):
    """Whether any value is a tuple of steps, not empty, in the order of rooms, at most one of each room."""
    if not is_unlike_steps(rooms, value):
        return False
    names = [name for name, _ in rooms.rooms]
    places = [names.index(step[0]) for step in value]
    return all([one < other for one, other in zip(places, places[1:])])
