"""Live halls: changed by deeds, which can be taken back and done again."""

from curvebells.errors import InvalidCommand, InvalidHall, InvalidRule, NoName, Refused
from curvebells.halls import Hall, MODES, bell_number, read_bell, read_words, thing_number, way_number, with_bells
from curvebells.places import zero_of, zero_order
from curvebells.rules import Ruled, read_rule
from curvebells.runs import Run
from curvebells.values import is_name, is_number, read_integer


class Live:
    """A hall and its rules of now, by the deeds that stand."""

    def __init__(self, hall):
        # For each deed that stands (its text, what came of it); a beginning without a text stands first.
        self.stood = [(None, Ruled(hall))]
        self.taken_back = []
        self.row = ()
        self.show()
        self.changed = ((), ())

    def deed(self, text):
        """Does a deed; any value."""
        told = read_deed(text)
        if told is None:
            raise InvalidCommand()
        self.stood.append((text, done_deed(self.ruled, told)))
        self.taken_back = []
        self.show()

    def undo(self):
        """Takes the last deed that stands back."""
        if len(self.stood) == 1:
            raise Refused(0)
        self.taken_back.append(self.stood.pop())
        self.show()

    def redo(self):
        """Does the last deed again that was taken back."""
        if len(self.taken_back) == 0:
            raise Refused(0)
        self.stood.append(self.taken_back.pop())
        self.show()

    def show(self):
        """Sets what is told of now."""
        ahead = self.row
        self.ruled = self.stood[-1][1]
        self.hall = self.ruled.hall
        self.deeds = tuple([text for text, _ in self.stood[1:]])
        run = Run(self.ruled)
        self.row = run.row
        self.tale = run.tale
        self.changed = (lost_row(ahead, self.row), lost_row(self.row, ahead))


def lost_row(row, other):
    """What rings by a row and not by another one, moments as in the first."""
    told = [(zero_of(moment), lot) for moment, lot in other]
    lost = []
    at = 0
    for moment, lot in row:
        zero = zero_of(moment)
        while at < len(told) and zero_order(told[at][0], zero) < 0:
            at += 1
        heard = told[at][1] if at < len(told) and zero_order(told[at][0], zero) == 0 else ()
        names = tuple([name for name in lot if name not in heard])
        if names:
            lost.append((moment, names))
    return tuple(lost)


def read_deed(text):
    """The deed (word, what else its words tell) of a text, or None; any value."""
    if not isinstance(text, str):
        return None
    words = text.split(" ")
    if words[0] == "bell":
        return told_deed("bell", [read_bell(words)])
    if words[0] == "when":
        return told_deed("when", [read_rule(words)])
    if words[0] in ("thing", "way", "bend"):
        return told_deed(words[0], read_names(words[1:3], 2) + [read_words(words[3:])])
    if words[0] == "mode":
        return told_deed("mode", read_mode(words[1:]))
    if words[0] != "drop" or len(words) < 3:
        return None
    if words[1] == "rule":
        return told_deed("drop rule", [read_number(words[2:])])
    many = {"thing": 1, "bell": 1, "way": 2}.get(words[1], 0)
    return told_deed("drop " + words[1], read_names(words[2:], many))


def told_deed(word, told):
    """The deed of a word, None if one of what else is told is None."""
    return None if None in told else (word, *told)


def read_names(words, many):
    """Words, if they are so many names; else [None]."""
    return words if len(words) == many and all([is_name(word) for word in words]) else [None]


def read_mode(words):
    """The words for a bell and a mode, if they are such; else [None]."""
    return words if len(words) == 2 and is_name(words[0]) and words[1] in MODES else [None]


def read_number(words):
    """The number that one word writes, or None."""
    number = read_integer(words[0]) if len(words) == 1 else None
    return number if is_number(number) else None


def done_deed(ruled, told):
    """What comes of a hall with rules by a deed."""
    try:
        return led_by(ruled, told[0], told[1:])
    except (NoName, InvalidHall, InvalidRule):
        raise Refused(0) from None


def led_by(ruled, word, told):
    """The hall with rules behind a deed of a word; errors of names, halls and rules are those of what would come."""
    hall = ruled.hall
    if word == "when":
        return Ruled(hall, (*ruled.rules, told[0]))
    if word == "drop rule":
        if told[0] >= len(ruled.rules):
            raise Refused(0)
        return Ruled(hall, without_one(ruled.rules, told[0]))
    if word in ("bell", "mode", "drop bell"):
        return Ruled(with_bells(hall, led_bells(hall, word, told)), ruled.rules)
    return Ruled(Hall(led_things(hall, word, told), hall.bells), ruled.rules)


def led_bells(hall, word, told):
    """The bells behind a deed of theirs."""
    if word == "bell":
        return (*hall.bells, told[0])
    number = bell_number(hall, told[0])
    if word == "drop bell":
        return without_one(hall.bells, number)
    return with_one(hall.bells, number, (*hall.bells[number][:3], told[1]))


def led_things(hall, word, told):
    """The things behind a deed of theirs."""
    if word == "thing":
        return (*hall.things, (told[0], ((told[1], told[2]),)))
    number = thing_number(hall, told[0])
    if word == "drop thing":
        return without_one(hall.things, number)
    name, ways = hall.things[number]
    return with_one(hall.things, number, (name, led_ways(hall, word, told, ways)))


def led_ways(hall, word, told, ways):
    """The ways of a thing behind a deed of theirs."""
    if word == "way":
        return (*ways, told[1:])
    number = way_number(hall, told[0], told[1])
    if word == "bend":
        return with_one(ways, number, told[1:])
    return without_one(ways, number)


def without_one(rows, number):
    """A tuple without the thing of a number."""
    return rows[:number] + rows[number + 1:]


def with_one(rows, number, row):
    """A tuple with another thing of a number."""
    return (*rows[:number], row, *rows[number + 1:])
