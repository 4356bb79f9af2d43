"""Rows: the moments at which bells of a hall ring, each with its lot of names; tales: the lots alone."""

from curvebells.errors import InvalidPlace
from curvebells.halls import faces_of, followed_curves, mode_fits
from curvebells.places import is_moment, moments_of, zero_of, zero_order
from curvebells.tables import Table, zero_cells
from curvebells.values import as_lot


def hall_table(hall, ways):
    """The table of all faces, in order; any value as the ways."""
    followed_curves(hall, ways)
    faces = []
    for number in range(len(hall.bells)):
        faces = faces + list(faces_of(hall, ways, number))
    return Table(faces)


def bell_signs(hall, ways):
    """For each cell of the hall's table the tuple of the bells' signs; any value as the ways."""
    table = hall_table(hall, ways)
    numbers = face_numbers(table)
    bells = []
    for number in range(len(hall.bells)):
        bells.append([numbers[face] for face in faces_of(hall, ways, number)])
    return tuple([tuple([sign_in(signs, faces) for faces in bells]) for signs in table.signs])


def face_numbers(table):
    """The numbers of a table's curves by the curves."""
    return {curve: number for number, curve in enumerate(table.curves)}


def sign_in(signs, faces):
    """The sign of a bell by the signs of all curves and the numbers of its faces."""
    product = 1
    for face in faces:
        product *= signs[face]
    return product


def ring_row(hall, ways):
    """The row of all bells that ring; any value as the ways."""
    return tuple([(moment, lot) for _, moment, lot in rung_moments(hall_table(hall, ways), hall, ways)])


def rung_moments(table, hall, ways):
    """For each cell of a table in which bells ring: (cell, moment as the first one tells it, lot).

    All faces by these ways are among the table's curves.
    """
    numbers = face_numbers(table)
    moments = {}
    rung = []
    for cell, lot, face in rung_cells(table.signs, numbers, hall, ways):
        if face not in moments:
            moments[face] = dict(zip(zero_cells(table, numbers[face]), moments_of(face)))
        rung.append((cell, moments[face][cell], lot))
    return rung


def rung_cells(signs, numbers, hall, ways):
    """For each cell in which bells ring, ascending: (cell, lot, face that is nought of the first one).

    By the signs of faces in each cell, and the faces' numbers in these.
    """
    rung = {}
    for name, number in sorted([(bell[0], number) for number, bell in enumerate(hall.bells)]):
        faces = faces_of(hall, ways, number)
        if () not in faces:
            for cell, face in bell_rings(signs, numbers, faces, hall.bells[number][3]):
                rung.setdefault(cell, ([], face))[0].append(name)
    return [(cell, tuple(rung[cell][0]), rung[cell][1]) for cell in sorted(rung)]


def bell_rings(signs, numbers, faces, mode):
    """The pairs (cell, face that is nought there) of a bell that doesn't hum."""
    places = [numbers[face] for face in faces]
    rings = []
    for cell in range(1, len(signs), 2):
        nought = [face for face, place in zip(faces, places) if signs[cell][place] == 0]
        if nought and mode_fits(mode, sign_in(signs[cell - 1], places), sign_in(signs[cell + 1], places)):
            rings.append((cell, nought[0]))
    return rings


def next_ring(hall, ways, time):
    """The first pair of the row behind a moment, or of all for None; None if there is none; any values."""
    row = sided_row(hall, ways, time, 1)
    return row[0] if row else None


def last_ring(hall, ways, time):
    """The last pair of the row ahead of a moment, or of all for None; None if there is none; any values."""
    row = sided_row(hall, ways, time, -1)
    return row[-1] if row else None


def sided_row(hall, ways, time, side):
    """The pairs of the row behind (1) or ahead of (-1) a moment, or all for None; any values as ways and time."""
    followed_curves(hall, ways)
    if time is not None and not is_moment(time):
        raise InvalidPlace(0)
    row = ring_row(hall, ways)
    if time is None:
        return row
    zero = zero_of(time)
    return [pair for pair in row if zero_order(zero_of(pair[0]), zero) == side]


def tale_of(row):
    """The lots of a row."""
    return tuple([lot for _, lot in row])


def thin_row(row, names):
    """The row with these names alone."""
    thinned = [(moment, thin_lot(lot, names)) for moment, lot in row]
    return tuple([pair for pair in thinned if pair[1]])


def thin_tale(tale, names):
    """The tale with these names alone."""
    thinned = [thin_lot(lot, names) for lot in tale]
    return tuple([lot for lot in thinned if lot])


def thin_lot(lot, names):
    """Those of a lot's names that are among some names."""
    return tuple([name for name in lot if name in names])


def merged_rows(row, other):
    """The row with the pairs of two rows, those of one moment as one pair."""
    zeros = [zero_of(moment) for moment, _ in row]
    others = [zero_of(moment) for moment, _ in other]
    merged = []
    at = 0
    behind = 0
    while at < len(row) and behind < len(other):
        order = zero_order(zeros[at], others[behind])
        if order == 0:
            merged.append(merged_pair(row[at], other[behind]))
        else:
            merged.append(row[at] if order < 0 else other[behind])
        at += int(order <= 0)
        behind += int(order >= 0)
    return (*merged, *row[at:], *other[behind:])


def merged_pair(pair, other):
    """The pair of two pairs of one moment, which is told by the one that has the least name."""
    moment = other[0] if other[1][0] < pair[1][0] else pair[0]
    return (moment, as_lot(pair[1] + other[1]))


def events_of(tale):
    """For each lot the pairs (name, i): this is the bell's i-th ring, from 1."""
    turns = {}
    events = []
    for lot in tale:
        for name in lot:
            turns[name] = turns.get(name, 0) + 1
        events.append(tuple([(name, turns[name]) for name in lot]))
    return tuple(events)


def event_lot(tale, name, i):
    """The number of the lot with a bell's i-th ring, or None."""
    for number, lot in enumerate(tale):
        if name in lot:
            i -= 1
            if i == 0:
                return number
    return None


def begins_with(tale, other):
    """Whether the second tale is the first one, or its beginning."""
    return tale[:len(other)] == other
