"""Books: sheets that hold, kept as they came, and what follows from them."""

from itertools import combinations

from curvebells.alike import bells_of
from curvebells.checker import sheet_holds
from curvebells.errors import Refused
from curvebells.places import is_place
from curvebells.silent import is_tale
from curvebells.values import as_lot, is_name_row, is_number, is_same
from curvebells.wishes import has_all

# For each kind the numbers of those things in its questions that may be lists as well as tuples.
SEQUENCES = {
    "table": (0, 1),
    "sure": (2,),
    "not sure": (2,),
    "blind": (3,),
    "not blind": (3,),
    "meets": (1,),
    "barred": (1,),
    "passes by": (1,),
    "fence": (1,),
    "common": (0, 1, 2),
    "chain": (0, 1, 2),
    "parted": (2,),
    "alike": (2,),
}


class Book:
    """Sheets that hold."""

    def __init__(self):
        self.sheets = ()

    def put(self, sheet):
        """Whether any value is a sheet that holds; if so, and none that is equal is kept, it is kept."""
        if not isinstance(sheet, tuple) or len(sheet) != 3 or not sheet_holds(sheet[0], sheet[1], sheet[2]):
            return False
        told = (sheet[0], told_question(sheet[0], sheet[1]), sheet[2])
        if not any([is_same(told, kept) for kept in self.sheets]):
            self.sheets = (*self.sheets, told)
        return True

    def forget(self, number):
        """Gives the sheet of a number up; any value."""
        if not is_number(number) or number >= len(self.sheets):
            raise Refused(0)
        self.sheets = self.sheets[:number] + self.sheets[number + 1:]

    def knows(self, kind, question):
        """Some ascending numbers of sheets from which such a sheet follows, or None; any values."""
        if not isinstance(kind, str) or not isinstance(question, tuple):
            return None
        asked = told_question(kind, question)
        for number, (word, told, _) in enumerate(self.sheets):
            if word == kind and is_same(asked, told):
                return (number,)
        if kind in ("before", "same"):
            return self.placed(kind, asked)
        if kind in ("parted", "alike") and len(asked) == 3 and is_name_row(asked[2]):
            if is_tale(asked[0]) and is_tale(asked[1]):
                return self.parted(asked) if kind == "parted" else self.alike(asked)
        return None

    def placed(self, kind, asked):
        """Numbers of sheets that lead from one place to another one, or None."""
        if len(asked) != 2 or not is_place(asked[0]) or not is_place(asked[1]):
            return None
        # For each place, with or without a sheet before on the way, the numbers that lead there.
        found = {(asked[0], False): ()}
        order = [(asked[0], False)]
        at = 0
        while at < len(order):
            for number, behind in self.led_from(order[at]):
                if behind not in found:
                    found[behind] = (*found[order[at]], number)
                    order.append(behind)
            at += 1
        goal = (asked[1], kind == "before")
        return as_lot(found[goal]) if goal in found else None

    def led_from(self, node):
        """The pairs (number, next) of the sheets of places that lead on from a place."""
        place, is_less = node
        led = []
        for number, (kind, told, _) in enumerate(self.sheets):
            if kind == "before" and told[0] == place:
                led.append((number, (told[1], True)))
            if kind == "same" and place in told:
                led.append((number, (told[1] if told[0] == place else told[0], is_less)))
        return led

    def beside(self, kind, asked):
        """The pairs (number, names) of the sheets of a kind about two tales, either way about."""
        pairs = []
        for number, (word, told, _) in enumerate(self.sheets):
            if word == kind and told[:2] in (asked[:2], (asked[1], asked[0])):
                pairs.append((number, told[2]))
        return pairs

    def parted(self, asked):
        """The number of a sheet that two tales are parted by some of the names, or None."""
        for number, names in self.beside("parted", asked):
            if has_all(asked[2], names):
                return (number,)
        return None

    def alike(self, asked):
        """Numbers of sheets that two tales are not parted by each two of the names that ring, or None."""
        told = self.beside("alike", asked)
        rung = [name for name in bells_of(asked[:2]) if name in asked[2]]
        numbers = []
        # Where two ring, each lies in the names of some sheet with the other one.
        for pair in list(combinations(rung, 2)) or [(name,) for name in rung]:
            saying = [number for number, names in told if has_all(names, pair)]
            if len(saying) == 0:
                return None
            numbers.append(saying[0])
        return as_lot(numbers)


def told_question(kind, question):
    """A question, the sequences in it that may be lists as tuples."""
    places = SEQUENCES.get(kind, ())
    return tuple([tuple(one) if at in places and isinstance(one, list) else one for at, one in enumerate(question)])
