"""Promise [70]: handles."""

import unittest

from curvebells.curves import curve_of, curve_plus, curve_scaled
from curvebells.errors import InvalidHall, InvalidSize, NoName
from curvebells.halls import Hall, faces_of
from curvebells.handles import Handle
from tests.helpers import ANY_VALUES, BellCase, fraction, picture, some_curve, source, worth

CAT = ("cat", (("run", (1, 0, 1)), ("sit", (7,))))
DOG = ("dog", (("hop", (0, 0, 1)),))
EEL = ("eel", (("swim", ()),))
BELLS = (
    ("a", "at", ("cat", 3), "any"), ("b", "at", ("dog", -4), "up"), ("c", "meet", ("dog", "cat"), "down"),
    ("d", "mid", ("eel", "cat", "dog"), "any"), ("e", "mid", ("cat", "dog", "eel"), "any"),
    ("f", "still", ("cat",), "touch"), ("g", "still", ("dog",), "any"), ("h", "near", ("dog", "cat", 2), "any"),
    ("i", "mid", ("dog", "eel", "cat"), "any"),
)
HALL = Hall([CAT, DOG, EEL], BELLS)


class TestHandle(BellCase):

    def test_attributes(self):
        handle = Handle(HALL, "cat", 1)
        self.assertIs(handle.hall, HALL)
        self.assert_same((handle.thing, handle.power), ("cat", 1))
        handle = Handle(power=0, thing="eel", hall=HALL)
        self.assert_same((handle.thing, handle.power), ("eel", 0))

    def test_faces_by_hand(self):
        self.assert_same(Handle(HALL, "cat", 1).faces, (
            (0, (-2, 0, 1), 1, 1), (1, (4, 0, 1), 0, 0), (2, (-1,), -1, 1), (3, (-2, 0, -1), -2, 1),
            (4, (1, 0, -1), 1, 1), (5, (0, 2), 1, 0), (6, (0, 2), 0, 0), (7, (-3,), -1, 1), (7, (1,), -1, 1),
            (8, (1, 0, 2), 1, 1)))

    def test_powers(self):
        for power in range(5):
            faces = Handle(HALL, "cat", power).faces
            self.assertEqual([face[2] for face in faces], [1, 0, -1, -2, 1, power, 0, -1, -1, 1])
            wanted = [power, 0, power, power, power, max(power - 1, 0), 0, power, power, power]
            self.assertEqual([face[3] for face in faces], wanted)
        self.assert_same(Handle(HALL, "cat", 0).faces[5], (5, (0, 2), 0, 0))
        self.assert_same(Handle(HALL, "cat", 4).faces[5], (5, (0, 2), 4, 3))
        self.assert_same([face[2:] for face in Handle(HALL, "eel", 2).faces],
                         [(0, 0), (0, 0), (0, 0), (1, 2), (1, 2), (0, 0), (0, 0), (0, 0), (0, 0), (-2, 2)])

    def test_no_bells(self):
        self.assert_same(Handle(Hall([CAT], []), "cat", 2).faces, ())

    def test_errors_in_their_order(self):
        for hall in (None, 3, "hall", HALL.things, (HALL,), HALL.text()):
            self.assert_error(InvalidHall, {"at": "hall"}, Handle, hall, "owl", 9)
        for name in ("owl", "run", "a", "Cat", None, 1, ("cat",), ""):
            self.assert_error(NoName, {"name": name}, Handle, HALL, name, 9)
        for power in (5, -1, True, False, None, "1", (1,), 10 ** 9):
            self.assert_error(InvalidSize, {"word": "power"}, Handle, HALL, "cat", power)

    def test_any_value(self):
        for value in ANY_VALUES:
            if not isinstance(value, Hall):
                self.assert_error(InvalidHall, {"at": "hall"}, Handle, value, "cat", 1)
            if value != "cat":
                self.assert_error(NoName, {"name": value}, Handle, HALL, value, value)
            if value not in (0, 1, 2) or isinstance(value, bool):
                self.assert_error(InvalidSize, {"word": "power"}, Handle, HALL, "cat", value)

    def test_no_length_and_not_iterable(self):
        with self.assertRaises(TypeError):
            iter(Handle(HALL, "cat", 1))
        with self.assertRaises(TypeError):
            len(Handle(HALL, "cat", 1))


class TestHallAt(BellCase):

    def test_by_hand(self):
        hall = Handle(HALL, "cat", 1).hall_at((-3, 2))
        self.assertIsInstance(hall, Hall)
        self.assert_same(hall.things, (("cat", (("run", (2, -3, 2)), ("sit", (14,)))), ("dog", (("hop", (0, 0, 2)),)),
                                       ("eel", (("swim", ()),))))
        self.assert_same([bell[2] for bell in hall.bells], [
            ("cat", 6), ("dog", -8), ("dog", "cat"), ("eel", "cat", "dog"), ("cat", "dog", "eel"), ("cat",), ("dog",),
            ("dog", "cat", 4), ("dog", "eel", "cat")])
        self.assert_same([(bell[0], bell[1], bell[3]) for bell in hall.bells],
                         [(bell[0], bell[1], bell[3]) for bell in BELLS])

    def test_nought_and_gone(self):
        self.assertEqual(picture(Handle(HALL, "dog", 3).hall_at((0, 1))), picture(HALL))
        self.assert_same(Handle(HALL, "cat", 2).hall_at(one=(-1, 1)).things[0][1][0], ("run", (1,)))
        self.assert_same(Handle(HALL, "eel", 4).hall_at((5, 3)).things[2][1][0], ("swim", (0, 0, 0, 0, 5)))

    def test_no_worth(self):
        handle = Handle(HALL, "cat", 1)
        for value in ((2, 4), (1, 0), (1, -1), [1, 2], (True, 1), (1, True), 1, None, "1", ((-1, 1), 1), (1,), (1, 2, 3)):
            self.assert_error(InvalidSize, {"word": "worth"}, handle.hall_at, value)
        for value in ANY_VALUES:
            if value != (1, 2):
                self.assert_error(InvalidSize, {"word": "worth"}, handle.hall_at, value)

    def test_faces_at_all_worths(self):
        rng = source(71)
        for _ in range(40):
            names = ["cat", "dog", "eel"]
            things = [(name, (("a", some_curve(rng, rng.randint(0, 4), 99)), ("b", ()))) for name in names]
            handle = Handle(Hall(things, BELLS), rng.choice(names), rng.randint(0, 4))
            before = picture(handle)
            for _ in range(3):
                one = (2 * rng.randint(-50, 50) + 1, 2)
                hall = handle.hall_at(one)
                faces = [face for number in range(len(BELLS)) for face in faces_of(hall, hall.first, number)]
                self.assertEqual(len(faces), len(handle.faces))
                for face, (_, a, c, j) in zip(faces, handle.faces):
                    self.assertEqual(face, curve_plus(curve_scaled(a, 2), curve_of([0] * j + [c * one[0]])))
                    self.assertEqual(worth(face, 3), 2 * (worth(a, 3) + fraction(one) * c * 3 ** j))
            self.assertEqual(picture(handle), before)


if __name__ == "__main__":
    unittest.main()
