"""The desk: a live hall by commands, told in text."""

from curvebells.alike import parting_lots
from curvebells.curves import curve_text
from curvebells.errors import InvalidCommand
from curvebells.halls import Hall
from curvebells.live import Live
from curvebells.rows import thin_tale
from curvebells.values import is_name, read_integer

GAP = " ; "
MOST_RINGS = 99


class Desk:
    """A live hall, none at first, and commands."""

    def __init__(self):
        self.live = None
        self.first_tale = ()

    def say(self, command):
        """Does what a command says, and tells its text; any value."""
        if not isinstance(command, str):
            raise InvalidCommand()
        word, blank, rest = command.partition(" ")
        if word == "hall" and blank:
            return self.started(rest)
        if self.live is None:
            raise InvalidCommand()
        if word == "do" and blank:
            self.live.deed(rest)
            return tale_text(self.live.tale)
        if word == "hear" and blank:
            return self.thinned(rest.split(" "))
        if word == "moment" and blank:
            return self.told_moment(rest.split(" "))
        return self.lone(command)

    def started(self, text):
        """Begins a live hall by a text; its tale."""
        live = Live(Hall.read(text.replace(GAP, "\n")))
        self.live = live
        self.first_tale = live.tale
        return tale_text(live.tale)

    def thinned(self, names):
        """The tale of now, thinned to names."""
        if not all([is_name(name) for name in names]):
            raise InvalidCommand()
        return tale_text(thin_tale(self.live.tale, names))

    def told_moment(self, words):
        """The moment of a bell's ring of a number, or never."""
        number = read_integer(words[1]) if len(words) == 2 else None
        if number is None or not 1 <= number <= MOST_RINGS or not is_name(words[0]):
            raise InvalidCommand()
        moments = [moment for moment, lot in self.live.row if words[0] in lot]
        if number > len(moments):
            return "never"
        curve, zero = moments[number - 1]
        return f"zero {zero} of {curve_text(curve)}"

    def lone(self, command):
        """What a command of one word tells."""
        if command == "undo":
            self.live.undo()
        elif command == "redo":
            self.live.redo()
        elif command == "noticed":
            return tale_text(parting_lots(self.first_tale, self.live.tale))
        elif command == "text":
            return self.text()
        elif command != "tale":
            raise InvalidCommand()
        return tale_text(self.live.tale)

    def text(self):
        """The rows of the hall, then those of its rules."""
        rows = self.live.hall.text().split("\n")
        if self.live.ruled.rules:
            rows = rows + self.live.ruled.text().split("\n")
        return GAP.join(rows)


def tale_text(tale):
    """The names of each lot with blanks, a comma and a blank between lots; a dash for no lot."""
    return ", ".join([" ".join(lot) for lot in tale]) if tale else "-"
