"""Halls: things that follow their ways, and bells that ring by them."""

from curvebells.curves import curve_after, curve_minus, curve_plus, curve_scaled, curve_slope, curve_text, is_curve
from curvebells.curves import last_sign, read_curve, without_end
from curvebells.cuts import count_zeros
from curvebells.errors import InvalidCurve, InvalidHall, InvalidSize, InvalidText, NoName
from curvebells.values import is_count, is_integer, is_name, is_number, is_sequence, read_integer

MODES = ("any", "up", "down", "touch")
# What stands behind each word of a bell.
FORMS = {
    "meet": ("thing", "thing"),
    "at": ("thing", "integer"),
    "mid": ("thing", "thing", "thing"),
    "still": ("thing",),
    "near": ("thing", "thing", "integer"),
}
MOST_WAYS = 3


class Hall:
    """Things with their ways, and bells; at first each thing follows its first way."""

    def __init__(self, things, bells):
        if not is_sequence(things) or len(things) == 0:
            raise InvalidHall(("things", -1))
        need_rows(things, "things", is_thing)
        if not is_sequence(bells):
            raise InvalidHall(("bells", -1))
        names = [thing[0] for thing in things]
        need_rows(bells, "bells", lambda bell: is_bell(bell, names))
        self.things = tuple(things)
        self.bells = tuple(bells)
        self.first = tuple([0 for _ in things])

    def text(self):
        """The rows of things, their ways, and bells, joined by line ends."""
        rows = []
        for name, ways in self.things:
            rows.append(f"thing {name}")
            rows = rows + [f"way {way} {curve_text(curve)}" for way, curve in ways]
        return "\n".join(rows + [bell_text(bell) for bell in self.bells])

    @staticmethod
    def read(text):
        """The hall of a text as the method text writes it; any value."""
        if not isinstance(text, str):
            raise InvalidText(-1)
        things = []
        bells = []
        for at, line in enumerate(text.split("\n")):
            if not takes_row(line.split(" "), things, bells):
                raise InvalidText(at)
        return Hall([(name, tuple(ways)) for name, ways in things], bells)


def need_rows(rows, word, is_row):
    """Raises InvalidHall for the first thing that is no such row, or has the name of an earlier one."""
    names = []
    for at, row in enumerate(rows):
        if not is_row(row) or row[0] in names:
            raise InvalidHall((word, at))
        names.append(row[0])


def is_thing(value):
    """Whether any value is a name with one to three ways of unlike names."""
    if not isinstance(value, tuple) or len(value) != 2 or not is_name(value[0]) or not isinstance(value[1], tuple):
        return False
    ways = value[1]
    if not 1 <= len(ways) <= MOST_WAYS or not all([is_way(way) for way in ways]):
        return False
    return len(set([way[0] for way in ways])) == len(ways)


def is_way(value):
    """Whether any value is a pair of a name and a curve."""
    return isinstance(value, tuple) and len(value) == 2 and is_name(value[0]) and is_curve(value[1])


def is_bell(value, names):
    """Whether any value is a bell of things with these names."""
    if not isinstance(value, tuple) or len(value) != 4 or not is_name(value[0]):
        return False
    _, word, arguments, mode = value
    if not isinstance(word, str) or word not in FORMS or mode not in MODES:
        return False
    form = FORMS[word]
    if not isinstance(arguments, tuple) or len(arguments) != len(form):
        return False
    things = arguments[:form.count("thing")]
    if not all([one in names for one in things]) or len(set(things)) != len(things):
        return False
    if word == "near":
        return is_count(arguments[2])
    return word != "at" or is_integer(arguments[1])


def bell_text(bell):
    """The row of a bell."""
    name, word, arguments, mode = bell
    return " ".join(["bell", name, word] + [str(one) for one in arguments] + [mode])


def takes_row(words, things, bells):
    """Puts what a row of a text tells to the things or bells so far; whether it may stand there."""
    if words[0] == "bell":
        bell = read_bell(words)
        if bell is not None:
            bells.append(bell)
        return bell is not None
    if len(words) < 2 or not is_name(words[1]) or bells:
        return False
    if words[0] == "thing":
        things.append((words[1], []))
        return len(words) == 2
    if words[0] != "way" or not things:
        return False
    curve = read_words(words[2:])
    if curve is not None:
        things[-1][1].append((words[1], curve))
    return curve is not None


def read_words(words):
    """The curve of which these are the words, or None."""
    try:
        return read_curve(" ".join(words))
    except InvalidText:
        return None


def read_bell(words):
    """The bell, of whatever things, that the words of a row behind the word bell tell, or None."""
    if len(words) < 4 or words[2] not in FORMS or words[-1] not in MODES:
        return None
    form = FORMS[words[2]]
    told = words[3:-1]
    if not is_name(words[1]) or len(told) != len(form):
        return None
    arguments = [read_argument(kind, word) for kind, word in zip(form, told)]
    if None in arguments:
        return None
    return (words[1], words[2], tuple(arguments), words[-1])


def read_argument(kind, word):
    """The name or integer that a word tells in its place, or None."""
    if kind == "integer":
        return read_integer(word)
    return word if is_name(word) else None


def thing_number(hall, name):
    """The number of a thing; any value as its name."""
    return number_of_name(hall.things, name)


def bell_number(hall, name):
    """The number of a bell; any value as its name."""
    return number_of_name(hall.bells, name)


def way_number(hall, thing, way):
    """The number of a thing's way; any values as their names."""
    return number_of_name(hall.things[thing_number(hall, thing)][1], way)


def number_of_name(rows, name):
    """The number of the row with a name; any value as the name."""
    for number, row in enumerate(rows):
        if row[0] == name:
            return number
    raise NoName(name)


def is_ways(hall, value):
    """Whether any value is ways of a hall."""
    if not isinstance(value, tuple) or len(value) != len(hall.things):
        return False
    return all([is_number(way) and way < len(thing[1]) for way, thing in zip(value, hall.things)])


def followed_curves(hall, ways):
    """The curves that the things follow; any value as the ways."""
    if not is_ways(hall, ways):
        raise InvalidHall("ways")
    return tuple([thing[1][way][1] for way, thing in zip(ways, hall.things)])


def faces_of(hall, ways, number):
    """The faces of a bell; any values as the ways and its number."""
    curves = followed_curves(hall, ways)
    if not is_number(number) or number >= len(hall.bells):
        raise InvalidSize("number")
    followed = {thing[0]: curve for thing, curve in zip(hall.things, curves)}
    word, arguments = hall.bells[number][1:3]
    # An integer is a constant curve.
    return word_faces(word, [followed[one] if is_name(one) else without_end([one]) for one in arguments])


def word_faces(word, curves):
    """The faces by a bell's word and the curves of its arguments."""
    if word == "still":
        return (curve_slope(curves[0]),)
    if word == "mid":
        return (curve_minus(curve_plus(curves[0], curves[2]), curve_scaled(curves[1], 2)),)
    apart = curve_minus(curves[0], curves[1])
    if word == "near":
        return (curve_minus(apart, curves[2]), curve_plus(apart, curves[2]))
    return (apart,)


def hums_of(hall, ways):
    """The names of the bells with a face (), ascending; any value as the ways."""
    followed_curves(hall, ways)
    return tuple(sorted([bell[0] for at, bell in enumerate(hall.bells) if () in faces_of(hall, ways, at)]))


def mode_fits(mode, ahead, behind):
    """Whether a bell of this mode rings with these signs, not 0, right ahead and right behind."""
    if mode == "touch":
        return ahead == behind
    if mode == "up":
        return ahead < behind
    return mode == "any" or ahead > behind


def joined_halls(one, other):
    """The hall of the things and bells of both."""
    return Hall(one.things + other.things, one.bells + other.bells)


def with_bells(hall, bells):
    """The hall with other bells."""
    return Hall(hall.things, bells)


def rewound_hall(hall, clock):
    """The hall with each way put behind a clock; any value as the clock."""
    if not is_clock(clock):
        raise InvalidCurve(0)
    return hall_by(hall, lambda curve: curve_after(curve, clock), hall.bells)


def is_clock(value):
    """Whether any value is a curve that is 0 at 0 and rises at all times above it."""
    if not is_curve(value) or len(value) == 0 or value[0] != 0:
        return False
    slope = curve_slope(value)
    return last_sign(slope) == 1 and count_zeros(slope, (0, 1), None) == 0


def hall_by(hall, change, bells):
    """The hall with each way led through a function, and these bells."""
    things = []
    for name, ways in hall.things:
        things.append((name, tuple([(way, change(curve)) for way, curve in ways])))
    return Hall(things, bells)


def scaled_hall(hall, a, b):
    """The hall with each way times a, plus b; any values as a and b."""
    if not is_integer(a) or a == 0:
        raise InvalidSize("a")
    if not is_integer(b):
        raise InvalidSize("b")
    bells = [scaled_bell(bell, a, b) for bell in hall.bells]
    return hall_by(hall, lambda curve: curve_plus(curve_scaled(curve, a), without_end([b])), bells)


def scaled_bell(bell, a, b):
    """The bell that rings where all ways are times a, plus b."""
    name, word, arguments, mode = bell
    if word == "near":
        # Both faces change their signs, so what they make together does not.
        return (name, word, (*arguments[:2], arguments[2] * abs(a)), mode)
    if word == "at":
        arguments = (arguments[0], a * arguments[1] + b)
    return (name, word, arguments, turned_mode(mode) if a < 0 else mode)


def turned_mode(mode):
    """Up for down, down for up, else the same mode."""
    if mode == "up":
        return "down"
    return "up" if mode == "down" else mode
