"""Truths of sayings in a band: by cells, row by row."""

from curvebells.curves import curve_minus, curve_scaled, curve_slope, without_end
from curvebells.halls import followed_curves, thing_number
from curvebells.lines import Line, lately_spans, since_row, soon_spans, until_row
from curvebells.places import zero_of
from curvebells.rows import face_numbers
from curvebells.tables import Table
from curvebells.values import is_integer

ATOMS = ("above", "rises", "falls", "rings")


def truth_line(band, rows):
    """The line that has the truths of each of some rows: of a stair, or of several, numbered through."""
    line = Line()
    spans = atom_spans(band, [row for row in rows if row[0] in ATOMS])
    for row in rows:
        if row[0] in ATOMS:
            line.mark(spans[row])
        elif row[0] == "soon":
            line.mark(soon_spans(line.spans_in(line.truths[row[1]]), row[2]))
        elif row[0] == "lately":
            line.mark(lately_spans(line.spans_in(line.truths[row[1]]), row[2]))
        else:
            line.truths.append(joined_row(row[0], [line.truths[at] for at in row[1:]]))
    line.thin()
    return line


def joined_row(word, rows):
    """The truths of a row with this word, by those of the rows that it names."""
    one, other = rows[0], rows[-1]
    if word == "not":
        return [not is_true for is_true in one]
    if word == "and":
        return [first and second for first, second in zip(one, other)]
    if word == "or":
        return [first or second for first, second in zip(one, other)]
    return until_row(one, other) if word == "until" else since_row(one, other)


def atom_spans(band, atoms):
    """For each of some atoms the spans of zeros of all times at which it holds."""
    spans = moved_spans(band, [atom for atom in atoms if atom[0] != "rings"])
    rings = [atom for atom in atoms if atom[0] == "rings"]
    rung = [(zero_of(moment), lot) for moment, lot in band.row] if rings else []
    for atom in rings:
        spans[atom] = [(zero, True, zero, True) for zero, lot in rung if atom[1] in lot]
    return spans


def moved_spans(band, atoms):
    """For each of some atoms that tell of things, not of bells, the spans of zeros at which it holds."""
    followed = [band.hall.first] + [ways for _, ways in band.turns]
    curves = {}
    for ways in followed:
        for atom in atoms:
            curves[(atom, ways)] = atom_curve(band.hall, ways, atom)
    table = Table(list({curve: True for curve in list(curves.values())}), [moment for moment, _ in band.turns])
    numbers = face_numbers(table)
    line = Line([zero_of(moment) for moment in table.moments])
    # A turn's moment still belongs to the stretch ahead of it.
    cells = line.cells_by([zero_of(moment) for moment, _ in band.turns])
    spans = {}
    for atom in atoms:
        faces = [numbers[curves[(atom, followed[cell // 2])]] for cell in cells]
        spans[atom] = line.spans_in([signs[face] > 0 for signs, face in zip(table.signs, faces)])
    return spans


def atom_curve(hall, ways, atom):
    """The curve that is above 0 just when an atom holds by some ways."""
    word = atom[0]
    sides = [side_curve(hall, ways, side) for side in atom[1:]]
    if word == "above":
        return curve_minus(sides[0], sides[1])
    slope = curve_slope(sides[0])
    return slope if word == "rises" else curve_scaled(slope, -1)


def side_curve(hall, ways, side):
    """The curve of a thing, or of an integer."""
    if is_integer(side):
        return without_end([side])
    return followed_curves(hall, ways)[thing_number(hall, side)]
