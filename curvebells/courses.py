"""Courses: all moments at which bells may ring by some ways, and the rows by them."""

from curvebells.halls import faces_of, followed_curves
from curvebells.rows import rung_moments
from curvebells.tables import Table


class Course:
    """A hall by all its ways, each followed for ever."""

    def __init__(self, hall):
        choices = all_ways(hall)
        self.hall = hall
        self.faces = course_faces(hall, choices)
        table = Table(self.faces)
        rung = {ways: rung_moments(table, hall, ways) for ways in choices}
        cells = rung_numbers(rung)
        self.moments = tuple([table.moments[cell // 2] for cell in cells])
        # For each ways the tuple of (number, moment as told by these ways, lot).
        self.rings = {}
        for ways in choices:
            self.rings[ways] = tuple([(cells[cell], moment, lot) for cell, moment, lot in rung[ways]])

    def row_by(self, ways):
        """The pairs (number of a moment, lot) by these ways for ever; any value as the ways."""
        followed_curves(self.hall, ways)
        return tuple([(number, lot) for number, _, lot in self.rings[ways]])


def all_ways(hall):
    """All ways of a hall, ascending."""
    choices = [()]
    for _, ways in hall.things:
        choices = [(*ahead, way) for ahead in choices for way in range(len(ways))]
    return choices


def course_faces(hall, choices):
    """All faces of all bells by these ways, each curve once, as they come."""
    faces = {}
    for number in range(len(hall.bells)):
        for ways in choices:
            for face in faces_of(hall, ways, number):
                faces[face] = True
    return tuple(list(faces))


def rung_numbers(rung):
    """The numbers, from 1 on, of all cells in which some bell rings."""
    cells = {}
    for ways in rung:
        for ring in rung[ways]:
            cells[ring[0]] = True
    return {cell: number + 1 for number, cell in enumerate(sorted(cells))}
