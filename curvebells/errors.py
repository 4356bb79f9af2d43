"""The errors of the package; each keeps what it was made with."""


class BellError(Exception):
    """The base of all errors here, but of NoName."""


class InvalidCurve(BellError):
    """No curve, or no sequence of curves."""

    def __init__(self, at):
        self.at = at


class InvalidPlace(BellError):
    """No place, or no moment."""

    def __init__(self, at):
        self.at = at


class InvalidTable(BellError):
    """No rows of signs."""

    def __init__(self, at):
        self.at = at


class InvalidHall(BellError):
    """No hall, or no ways of one."""

    def __init__(self, at):
        self.at = at


class InvalidOrder(BellError):
    """No order of numbers."""

    def __init__(self, at):
        self.at = at


class InvalidText(BellError):
    """A text that is not written as it should be."""

    def __init__(self, at):
        self.at = at


class InvalidSaying(BellError):
    """No rows of a stair."""

    def __init__(self, at):
        self.at = at


class InvalidSpans(BellError):
    """No least row of spans."""

    def __init__(self, at):
        self.at = at


class InvalidTurns(BellError):
    """No turns of a band."""

    def __init__(self, at):
        self.at = at


class InvalidRule(BellError):
    """No rules of a hall."""

    def __init__(self, at):
        self.at = at


class InvalidWish(BellError):
    """No states, good states or steps of a wish."""

    def __init__(self, at):
        self.at = at


class InvalidGame(BellError):
    """No hands of a game."""

    def __init__(self, at):
        self.at = at


class InvalidRooms(BellError):
    """No rooms, joins, or what is told of them."""

    def __init__(self, at):
        self.at = at


class InvalidHeard(BellError):
    """Nothing that can have been heard."""

    def __init__(self, at):
        self.at = at


class InvalidSize(BellError):
    """A value that is none of those that an argument may have."""

    def __init__(self, word):
        self.word = word


class InvalidCommand(BellError):
    """A deed or a command of no known form."""


class Refused(BellError):
    """What is asked for is not there, or can't be done."""

    def __init__(self, at):
        self.at = at


class NoName(KeyError):
    """A name that nothing has."""

    def __init__(self, name):
        self.name = name
