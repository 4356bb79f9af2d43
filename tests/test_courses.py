"""Promise [44], as far as class Course goes: all moments at which bells may ring, and the rows by all ways."""

import unittest

from curvebells.courses import Course
from curvebells.errors import InvalidHall
from curvebells.halls import Hall, faces_of
from curvebells.places import is_moment, place_order
from curvebells.rows import ring_row
from tests.helpers import ANY_VALUES, BellCase, picture, source
from tests.test_halls import HALL, all_ways, some_hall


def number_among(moments, moment):
    """The number, from 1 on, of a moment among places."""
    return [place_order(one, moment) for one in moments].index(0) + 1


class TestCourse(BellCase):

    def test_by_hand(self):
        hall = Hall([("cat", (("run", (0, 1)), ("back", (10, -1)))), ("dog", (("sit", (4,)),))],
                    [("tick", "at", ("cat", 3), "any"), ("tock", "meet", ("cat", "dog"), "up"),
                     ("still", "still", ("cat",), "any"), ("hum", "still", ("dog",), "any")])
        course = Course(hall)
        self.assert_same(course.faces, ((-3, 1), (7, -1), (-4, 1), (6, -1), (1,), (-1,), ()))
        # By the second way cat and dog meet at 6, but down.
        self.assertEqual([place_order(one, ((-at, 1), 1)) for one, at in zip(course.moments, (3, 4, 7))], [0] * 3)
        self.assertEqual(len(course.moments), 3)
        self.assert_same(course.row_by((0, 0)), ((1, ("tick",)), (2, ("tock",))))
        self.assert_same(course.row_by(ways=(1, 0)), ((3, ("tick",)),))

    def test_each_face_once(self):
        hall = Hall([("a", (("x", (0, 1)), ("y", (0, 1)), ("z", (2,))))],
                    [("b", "at", ("a", 2), "any"), ("c", "at", ("a", 2), "up"), ("d", "still", ("a",), "any")])
        self.assert_same(Course(hall).faces, ((-2, 1), (), (1,)))
        self.assert_same(Course(hall).row_by((1,)), ((1, ("b", "c")),))
        self.assert_same(Course(hall).row_by((2,)), ())

    def test_nothing_rings(self):
        for hall in (Hall(HALL.things, ()), Hall([("a", (("x", (5,)),))], [("b", "at", ("a", 5), "any")])):
            course = Course(hall)
            self.assert_same(course.moments, ())
            self.assert_same(course.row_by(hall.first), ())
        self.assert_same(Course(Hall(HALL.things, ())).faces, ())
        self.assert_same(course.faces, ((),))

    def test_by_the_rows(self):
        rng = source(96)
        for _ in range(25):
            hall = some_hall(rng)
            course = Course(hall)
            faces = [face for at in range(len(hall.bells)) for ways in all_ways(hall)
                     for face in faces_of(hall, ways, at)]
            self.assert_same(course.faces, tuple(dict.fromkeys(faces)))
            self.assertTrue(all(is_moment(moment) for moment in course.moments))
            self.assertTrue(all(place_order(one, other) < 0 for one, other in zip(course.moments, course.moments[1:])))
            rung = set()
            for ways in all_ways(hall):
                row = [(number_among(course.moments, moment), lot) for moment, lot in ring_row(hall, ways)]
                self.assert_same(course.row_by(ways), tuple(row))
                rung.update(number for number, _ in row)
            self.assertEqual(rung, set(range(1, len(course.moments) + 1)))

    def test_wrong_ways(self):
        course = Course(HALL)
        for value in ANY_VALUES:
            self.assert_error(InvalidHall, {"at": "ways"}, course.row_by, value)
        for ways in ((0, 0), (0, 0, 0, 0), [0, 0, 0], (2, 0, 0), (0, 1, 0), (0, -1, 0), (0, False, 0)):
            self.assert_error(InvalidHall, {"at": "ways"}, course.row_by, ways)

    def test_equal_each_time(self):
        self.assertEqual(picture(Course(HALL).moments), picture(Course(hall=HALL).moments))
        before = picture(HALL)
        Course(HALL).row_by((0, 0, 0))
        self.assertEqual(picture(HALL), before)

    def test_greatest_hall(self):
        rng = source(97)
        things = [(name, tuple((way, tuple(rng.randint(-99, 99) for _ in range(4)) + (rng.randint(1, 99),))
                               for way in "uv")) for name in "abc"]
        bells = [("k", "near", ("a", "b", 9), "any"), ("l", "mid", ("a", "b", "c"), "any"),
                 ("m", "near", ("b", "c", 99), "any"), ("n", "near", ("a", "c", 50), "up")]
        hall = Hall(things, bells)
        course = self.assert_soon(3, Course, hall)
        self.assertGreater(len(course.faces), 30)
        for ways in all_ways(hall):
            self.assertEqual(len(course.row_by(ways)), len(ring_row(hall, ways)))


if __name__ == "__main__":
    unittest.main()
