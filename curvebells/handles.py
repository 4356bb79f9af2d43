"""Handles: one way of a thing that is drawn through all its worths."""

from curvebells.curves import curve_minus, curve_plus, curve_scaled, without_end
from curvebells.errors import InvalidHall, InvalidSize
from curvebells.halls import Hall, faces_of, thing_number
from curvebells.ratios import is_ratio
from curvebells.values import is_number

MOST_POWER = 4


class Handle:
    """A worth times a power of the time is added to the first way of a thing."""

    def __init__(self, hall, thing, power):
        if not isinstance(hall, Hall):
            raise InvalidHall("hall")
        thing_number(hall, thing)
        if not is_number(power) or power > MOST_POWER:
            raise InvalidSize("power")
        self.hall = hall
        self.thing = thing
        self.power = power
        self.faces = felt_faces(hall, drawn_hall(hall, thing, power, (1, 1)))

    def hall_at(self, one):
        """The hall at a worth that is a ratio, in integers; any value as the worth."""
        if not is_ratio(one):
            raise InvalidSize("worth")
        return drawn_hall(self.hall, self.thing, self.power, one)


def drawn_hall(hall, thing, power, one):
    """The hall of a handle at a ratio, times the bottom of this ratio."""
    top, bottom = one
    more = without_end([0] * power + [top])
    things = []
    for name, ways in hall.things:
        drawn = [(way, curve_scaled(curve, bottom)) for way, curve in ways]
        if name == thing:
            drawn[0] = (drawn[0][0], curve_plus(drawn[0][1], more))
        things.append((name, tuple(drawn)))
    return Hall(things, [times_bell(bell, bottom) for bell in hall.bells])


def times_bell(bell, n):
    """The bell with its number, if it has one, taken n times."""
    name, word, arguments, mode = bell
    if word in ("at", "near"):
        arguments = (*arguments[:-1], n * arguments[-1])
    return (name, word, arguments, mode)


def felt_faces(hall, drawn):
    """For each face of each bell (bell, a, c, j): what it is, and how it feels the handle at the worth 1."""
    faces = []
    for bell in range(len(hall.bells)):
        for face, moved in zip(faces_of(hall, hall.first, bell), faces_of(drawn, hall.first, bell)):
            felt = curve_minus(moved, face)
            if felt:
                faces.append((bell, face, felt[-1], len(felt) - 1))
            else:
                faces.append((bell, face, 0, 0))
    return tuple(faces)
