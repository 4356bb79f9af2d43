"""Plain values: what is an integer, a name, a sequence, a lot."""

FIGURES = 9
LETTERS = 8


def is_integer(value):
    """Whether any value is an integer; no bool is one."""
    return isinstance(value, int) and not isinstance(value, bool)


def is_number(value):
    """Whether any value is an integer from 0 on."""
    return is_integer(value) and value >= 0


def is_count(value):
    """Whether any value is an integer from 1 on."""
    return is_integer(value) and value >= 1


def is_sequence(value):
    """Whether any value is a list or a tuple."""
    return isinstance(value, (list, tuple))


def is_name(value):
    """Whether any value is a string of 1 to 8 small letters."""
    if not isinstance(value, str) or len(value) > LETTERS:
        return False
    # Letters of other alphabets are letters for Python, too.
    return value.isascii() and value.isalpha() and value.islower()


def is_name_row(value):
    """Whether any value is a sequence of names."""
    return is_sequence(value) and all([is_name(name) for name in value])


def is_lot_below(value, many):
    """Whether any value is a sequence of ascending unlike numbers, each below this one."""
    if not is_sequence(value) or not all([is_number(number) and number < many for number in value]):
        return False
    return all([one < other for one, other in zip(value, value[1:])])


def as_lot(values):
    """The unlike ones of some strings, or of some integers, ascending."""
    return tuple(sorted(set(values)))


def sign_of(integer):
    """The sign of an integer: -1, 0 or 1."""
    if integer > 0:
        return 1
    if integer < 0:
        return -1
    return 0


def read_integer(word):
    """The integer that a string writes just as Python does, or None; it has at most nine figures."""
    figures = word[1:] if word.startswith("-") else word
    # Python takes figures of other scripts for digits; it does not write them.
    if len(figures) > FIGURES or not figures.isascii() or not figures.isdigit():
        return None
    if figures.startswith("0") and word != "0":
        return None
    return int(word)


def is_same(value, wanted):
    """Whether any value equals a tuple of tuples and others, no lists within; no bool an integer, no list a tuple."""
    if isinstance(wanted, tuple):
        if not isinstance(value, tuple) or len(value) != len(wanted):
            return False
        return all([is_same(one, other) for one, other in zip(value, wanted)])
    return isinstance(value, bool) == isinstance(wanted, bool) and value == wanted
