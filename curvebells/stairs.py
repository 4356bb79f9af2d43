"""Stairs: sayings as rows, which may name elder rows by their numbers."""

from curvebells.errors import InvalidSaying, InvalidText
from curvebells.values import as_lot, is_count, is_integer, is_name, is_number, is_sequence, read_integer

# What stands behind each word: names of things and of bells, either a thing's name or an integer,
# numbers of elder rows, counts from 1 on.
FORMS = {
    "above": ("side", "side"),
    "rises": ("thing",),
    "falls": ("thing",),
    "rings": ("bell",),
    "not": ("row",),
    "and": ("row", "row"),
    "or": ("row", "row"),
    "until": ("row", "row"),
    "since": ("row", "row"),
    "soon": ("row", "count"),
    "lately": ("row", "count"),
}


class Stair:
    """A saying: a row for each step, the last one says it."""

    def __init__(self, rows):
        if not is_sequence(rows) or len(rows) == 0:
            raise InvalidSaying(-1)
        for at, row in enumerate(rows):
            if not is_row(row, at):
                raise InvalidSaying(at)
        self.rows = tuple(rows)

    def __eq__(self, other):
        return isinstance(other, Stair) and self.rows == other.rows

    def __str__(self):
        return "\n".join([row_text(row) for row in self.rows])

    @staticmethod
    def read(text):
        """The stair of a text as str writes it; any value."""
        if not isinstance(text, str):
            raise InvalidText(-1)
        rows = [read_row(line) for line in text.split("\n")]
        for at, row in enumerate(rows):
            if row is None:
                raise InvalidText(at)
        return Stair(rows)


def is_row(value, number):
    """Whether any value may be the row of this number."""
    if not isinstance(value, tuple) or len(value) == 0 or not isinstance(value[0], str):
        return False
    form = FORMS.get(value[0])
    if form is None or len(value) != len(form) + 1:
        return False
    if not all([is_fit(kind, one, number) for kind, one in zip(form, value[1:])]):
        return False
    return value[0] != "above" or is_pair_of_sides(value[1], value[2])


def is_fit(kind, value, number):
    """Whether any value may stand in a place of this kind, in the row of this number."""
    if kind == "row":
        return is_number(value) and value < number
    if kind == "count":
        return is_count(value)
    return is_name(value) or (kind == "side" and is_integer(value))


def is_pair_of_sides(one, other):
    """Whether two names or integers are unlike, and one at least is a name."""
    return one != other and (is_name(one) or is_name(other))


def row_text(row):
    """The words of a row, with single blanks."""
    return " ".join([str(word) for word in row])


def read_row(line):
    """The row that a line writes by the form of its word, or None."""
    words = line.split(" ")
    form = FORMS.get(words[0])
    if form is None or len(words) != len(form) + 1:
        return None
    row = [words[0]] + [read_word(kind, word) for kind, word in zip(form, words[1:])]
    if None in row:
        return None
    return tuple(row)


def read_word(kind, word):
    """The name or integer that a word writes in a place of this kind, or None."""
    if kind in ("thing", "bell", "side") and is_name(word):
        return word
    if kind in ("side", "row", "count"):
        return read_integer(word)
    return None


def words_of(row, kind):
    """What a row has in its places of this kind, in their order."""
    return [one for place, one in zip(FORMS[row[0]], row[1:]) if place == kind]


def stair_names(stair):
    """The lots of the names of things and of bells in the rows of a stair."""
    things = []
    bells = []
    for row in stair.rows:
        sides = [one for one in words_of(row, "side") if is_name(one)]
        things = things + sides + words_of(row, "thing")
        bells = bells + words_of(row, "bell")
    return (as_lot(things), as_lot(bells))


def is_timeless(stair):
    """Whether a stair has no soon and no lately."""
    return all([row[0] not in ("soon", "lately") for row in stair.rows])


def stair_depth(stair):
    """How many until and since lie within one another in what a stair says."""
    depths = []
    for row in stair.rows:
        depth = max([depths[at] for at in words_of(row, "row")], default=0)
        if row[0] in ("until", "since"):
            depth += 1
        depths.append(depth)
    return depths[-1]


def tidy_stair(stair):
    """The stair without rows that are alike, or on which the last one does not hang."""
    rows = []
    numbers = []
    known = {}
    for row in stair.rows:
        led = renumbered_row(row, numbers)
        if led not in known:
            known[led] = len(rows)
            rows.append(led)
        numbers.append(known[led])
    kept = needed_rows(rows, numbers[-1])
    places = {number: at for at, number in enumerate(kept)}
    return Stair([renumbered_row(rows[number], places) for number in kept])


def renumbered_row(row, numbers):
    """A row with the numbers of elder rows led on by a list or a dict."""
    words = [numbers[one] if place == "row" else one for place, one in zip(FORMS[row[0]], row[1:])]
    return (row[0], *words)


def needed_rows(rows, last):
    """The numbers, ascending, of a row and all rows on which it hangs."""
    needed = [last]
    for number in range(last, -1, -1):
        if number in needed:
            needed = needed + words_of(rows[number], "row")
    return as_lot(needed)
