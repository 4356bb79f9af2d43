"""Promises [24] to [27], as far as module rows has them: what rings, in rows and tales."""

import functools
import unittest

from curvebells.curves import curve_after
from curvebells.errors import InvalidCurve, InvalidHall, InvalidPlace, InvalidSize
from curvebells.halls import Hall, faces_of, joined_halls, mode_fits, rewound_hall, scaled_hall
from curvebells.places import is_place, moments_of, place_in, place_order, place_sides, ratio_place
from curvebells.rows import (
    begins_with, bell_signs, event_lot, events_of, hall_table, last_ring, merged_rows, next_ring, ring_row, tale_of,
    thin_row, thin_tale,
)
from tests.helpers import ANY_VALUES, BellCase, source, times
from tests.test_halls import EXAMPLE, HALL, all_ways, some_hall

TALE = (("a", "b"), ("b",), ("a", "c"), ("b",))


def known_row(hall, ways):
    """The row by the words of [25]: bell by bell, moment by moment."""
    found = []
    for number, (name, _, _, mode) in enumerate(hall.bells):
        faces = faces_of(hall, ways, number)
        if () in faces:
            continue
        for face in faces:
            for moment in moments_of(face):
                ahead, behind = 1, 1
                for sides in [place_sides(one, moment) for one in faces]:
                    ahead, behind = ahead * sides[0], behind * sides[1]
                if mode_fits(mode, ahead, behind):
                    found.append((name, moment))
    # The first name of each lot tells the moment, so names come first.
    found.sort()
    row = []
    for name, moment in found:
        for told, names in row:
            if place_order(told, moment) == 0:
                names.append(name)
                break
        else:
            row.append((moment, [name]))
    row.sort(key=functools.cmp_to_key(lambda one, other: place_order(one[0], other[0])))
    return tuple((moment, tuple(names)) for moment, names in row)


def rung(way, bells):
    """The row of one thing with a way, and at-bells: (name, height, mode)."""
    hall = Hall([("a", (("w", way),))], [(name, "at", ("a", n), mode) for name, n, mode in bells])
    return ring_row(hall, (0,))


class TestRows(BellCase):

    def test_example(self):
        hall = Hall.read(EXAMPLE)
        self.assert_same(ring_row(hall, hall.first), ((((0, -1, 1), 2), ("ding",)), (((-2, 0, 1), 2), ("dong",))))
        self.assert_same(bell_signs(hall, hall.first), ((-1, -1), (0, -1), (1, -1), (1, 0), (1, 1)))
        table = hall_table(hall, hall.first)
        self.assert_same(table.curves, ((0, -1, 1), (-2, 0, 1)))
        self.assert_same(table.marks, ())
        self.assert_same(table.signs, bell_signs(hall, hall.first))

    def test_several_bells_at_one_moment(self):
        way = times((-1, 1), (-2, 0, 1))
        row = rung(way, [("z", 0, "any"), ("b", 0, "up"), ("c", 0, "down"), ("a", 0, "any"), ("d", 0, "touch")])
        self.assert_same(row, (((way, 2), ("a", "c", "z")), ((way, 3), ("a", "b", "z"))))

    def test_the_least_name_tells_the_moment(self):
        # At 1 the thing stands still, and is at 0: two bells, two curves.
        things = [("a", (("w", (1, -2, 1)),))]
        for names, place in ((("x", "y"), ((-1, 1), 1)), (("y", "x"), ((-1, 1), 1))):
            hall = Hall(things, [(names[0], "still", ("a",), "any"), (names[1], "at", ("a", 0), "any")])
            self.assert_same(ring_row(hall, (0,)), ((place, ("x", "y")),))
        things = [("a", (("w", (0, -1, 1)),)), ("b", (("w", (1, -1)),))]
        for names, place in ((("x", "y"), ((0, -1, 1), 2)), (("y", "x"), ((-1, 1), 1))):
            hall = Hall(things, [(names[0], "at", ("a", 0), "any"), (names[1], "at", ("b", 0), "any")])
            self.assert_same(ring_row(hall, (0, 0))[-1], (place, ("x", "y")))

    def test_modes_at_touches(self):
        way = times((-1, 1), (-1, 1), (-2, 1))
        for mode, wanted in (("any", (1, 2)), ("up", (2,)), ("down", ()), ("touch", (1,))):
            row = rung(way, [("x", 0, mode)])
            self.assert_same(row, tuple((((2, -3, 1), at), ("x",)) for at in wanted))
        self.assert_same(rung(times((-1,), way), [("x", 0, "down")]), ((((2, -3, 1), 2), ("x",)),))
        self.assert_same(rung(times((-1, 1), (-1, 1), (-1, 1)), [("x", 0, "up"), ("y", 0, "touch")]),
                         ((((-1, 1), 1), ("x",)),))

    def test_near_has_two_faces(self):
        things = [("a", (("w", (0, 1)),)), ("b", (("w", (5,)),))]
        for mode, wanted in (("any", (2, 8)), ("up", (8,)), ("down", (2,)), ("touch", ())):
            hall = Hall(things, [("x", "near", ("a", "b", 3), mode)])
            self.assert_same(ring_row(hall, (0, 0)), tuple((((-at, 1), 1), ("x",)) for at in wanted))
        hall = Hall(things, [("x", "near", ("a", "b", 3), "any")])
        self.assert_same(bell_signs(hall, (0, 0)), ((1,), (0,), (-1,), (0,), (1,)))
        self.assert_same(hall_table(hall, (0, 0)).curves, ((-8, 1), (-2, 1)))
        # One comes near from above, and touches.
        hall = Hall([("a", (("w", (4, -2, 1)),)), ("b", (("w", ()),))], [("x", "near", ("a", "b", 3), "touch")])
        self.assert_same(ring_row(hall, (0, 0)), ((((-1, 1), 1), ("x",)),))

    def test_bells_that_hum(self):
        things = [("a", (("w", (3,)),)), ("b", (("w", (1, 1)),)), ("c", (("w", (0, 1)),))]
        hall = Hall(things, [("x", "at", ("a", 3), "any"), ("y", "meet", ("a", "b"), "any"),
                             ("z", "near", ("b", "c", 1), "any"), ("w", "still", ("a",), "touch")])
        self.assert_same(ring_row(hall, (0, 0, 0)), ((((-2, 1), 1), ("y",)),))
        self.assert_same(bell_signs(hall, (0, 0, 0)), ((0, 1, 0, 0), (0, 0, 0, 0), (0, -1, 0, 0)))

    def test_halls_without_bells(self):
        hall = Hall(HALL.things, ())
        self.assert_same(ring_row(hall, (0, 0, 0)), ())
        self.assert_same(bell_signs(hall, (0, 0, 0)), ((),))
        self.assertEqual(len(hall_table(hall, (0, 0, 0))), 1)
        self.assertIsNone(next_ring(hall, (0, 0, 0), None))
        self.assertIsNone(last_ring(hall, (0, 0, 0), ((-1, 1), 1)))

    def test_time_is_above_nought(self):
        self.assert_same(rung((0, 1), [("x", 0, "any"), ("y", -1, "any")]), ())
        self.assert_same(rung((0, -1, 1), [("x", 0, "any")]), ((((0, -1, 1), 2), ("x",)),))

    def test_by_the_words(self):
        rng = source(90)
        for _ in range(60):
            hall = some_hall(rng)
            for ways in all_ways(hall):
                row = self.assert_kept(ring_row, hall, ways)
                self.assert_same(row, known_row(hall, ways))
                self.assertTrue(all(is_place(moment) for moment, _ in row))
                table = hall_table(hall, ways)
                faces = [face for at in range(len(hall.bells)) for face in faces_of(hall, ways, at)]
                self.assert_same(table.curves, tuple(faces))
                signs = bell_signs(hall=hall, ways=ways)
                self.assertEqual(len(signs), len(table))
                for told, own in zip(signs, table.signs):
                    at = 0
                    for bell, sign in zip(hall.bells, told):
                        many = 2 if bell[1] == "near" else 1
                        product = own[at] if many == 1 else own[at] * own[at + 1]
                        self.assert_same(sign, product)
                        at += many

    def test_moments_are_place_in_of_the_first_face(self):
        rng = source(91)
        for _ in range(40):
            hall = some_hall(rng)
            numbers = {bell[0]: at for at, bell in enumerate(hall.bells)}
            for moment, lot in ring_row(hall, hall.first):
                self.assertEqual(list(lot), sorted(set(lot)))
                told = [place_in(face, moment) for face in faces_of(hall, hall.first, numbers[lot[0]])]
                self.assert_same(moment, [one for one in told if one is not None][0])

    def test_next_and_last(self):
        hall = Hall.read(EXAMPLE)
        ding, dong = ring_row(hall, hall.first)
        self.assert_same(next_ring(hall, hall.first, None), ding)
        self.assert_same(last_ring(hall, hall.first, None), dong)
        for top, wanted in (((1, 2), ding), ((1, 1), dong), ((7, 5), dong), ((3, 2), None)):
            self.assert_same(next_ring(hall, hall.first, ratio_place(top)), wanted)
        self.assertIsNone(next_ring(hall, ways=hall.first, time=((0, -2, 0, 1), 3)))
        for top, wanted in (((1, 2), None), ((1, 1), None), ((7, 5), ding), ((3, 2), dong)):
            self.assert_same(last_ring(hall, hall.first, ratio_place(top)), wanted)
        self.assert_same(last_ring(hall=hall, ways=hall.first, time=((-2, 0, 1), 2)), ding)

    def test_wrong_ways_and_times(self):
        for value in ANY_VALUES:
            for call in (hall_table, bell_signs, ring_row):
                self.assert_error(InvalidHall, {"at": "ways"}, call, HALL, value)
                self.assert_error(InvalidHall, {"at": "ways"}, call, Hall(HALL.things, ()), value)
            for call in (next_ring, last_ring):
                self.assert_error(InvalidHall, {"at": "ways"}, call, HALL, value, None)
                self.assert_error(InvalidHall, {"at": "ways"}, call, HALL, value, 0)
                if value is not None and value not in (((-1, 1), 1), ((-2, 0, 1), 2)):
                    self.assert_error(InvalidPlace, {"at": 0}, call, HALL, (0, 0, 0), value)
        for ways in ((0, 0), (0, 0, 0, 0), [0, 0, 0], (2, 0, 0), (0, False, 0), (-1, 0, 0)):
            self.assert_error(InvalidHall, {"at": "ways"}, ring_row, HALL, ways)
        for time in (((0, 1), 1), ((2, 0, 1), 1), ((-2, 0, 1), 1), ((-2, 0, 1), 3), [(-1, 1), 1], ((-1, 1), True), 1):
            self.assert_error(InvalidPlace, {"at": 0}, next_ring, HALL, (0, 0, 0), time)
            self.assert_error(InvalidPlace, {"at": 0}, last_ring, Hall(HALL.things, ()), (0, 0, 0), time)

    def test_greatest_hall(self):
        rng = source(92)
        things = [(name, tuple((way, tuple(rng.randint(-99, 99) for _ in range(4)) + (rng.randint(1, 99),))
                               for way in "uvw")) for name in "abc"]
        bells = [("k", "near", ("a", "b", 9), "any"), ("l", "mid", ("a", "b", "c"), "any"),
                 ("m", "near", ("b", "c", 99), "any"), ("n", "near", ("a", "c", 50), "any")]
        hall = Hall(things, bells)
        row = self.assert_soon(1, ring_row, hall, (0, 1, 2))
        self.assert_same(row, known_row(hall, (0, 1, 2)))
        self.assert_soon(1, merged_rows, row, row)


class TestTales(BellCase):

    def setUp(self):
        self.row = tuple((((-at, 1), 1), lot) for at, lot in zip((1, 2, 3, 4), TALE))

    def test_tale(self):
        self.assert_same(tale_of(self.row), TALE)
        self.assert_same(tale_of(row=()), ())

    def test_thin(self):
        for names, wanted in ((["b"], (("b",), ("b",), ("b",))), (("c", "a"), (("a",), ("a", "c"))), ((), ()),
                              (["z"], ()), (("a", "a", "b", "c"), TALE)):
            self.assert_same(self.assert_kept(thin_tale, TALE, names), wanted)
            self.assert_same(tale_of(self.assert_kept(thin_row, self.row, names)), wanted)
        self.assert_same(thin_row(row=self.row, names=["c"]), ((((-3, 1), 1), ("c",)),))
        self.assert_same(thin_tale(tale=(), names=["c"]), ())

    def test_merged(self):
        one = ((((-1, 1), 1), ("b",)), (((-2, 0, 1), 2), ("b", "d")), (((-3, 1), 1), ("a",)))
        other = ((((-1, 2), 1), ("z",)), (((-1, 0, 1), 2), ("a", "b")), (((0, -2, 0, 1), 3), ("c", "d", "e")),
                 (((-9, 0, 1), 2), ("a", "f")), (((-5, 1), 1), ("q",)))
        wanted = ((((-1, 2), 1), ("z",)), (((-1, 0, 1), 2), ("a", "b")), (((-2, 0, 1), 2), ("b", "c", "d", "e")),
                  (((-3, 1), 1), ("a", "f")), (((-5, 1), 1), ("q",)))
        self.assert_same(self.assert_kept(merged_rows, one, other), wanted)
        turned = merged_rows(other, one)
        self.assertEqual(tale_of(turned), tale_of(wanted))
        # Both have the least name a at 3, so the first row tells the moment.
        self.assert_same(turned[3], (((-9, 0, 1), 2), ("a", "f")))
        self.assert_same(turned[:3], wanted[:3])
        self.assert_same(merged_rows(row=(), other=one), one)
        self.assert_same(merged_rows(one, ()), one)
        self.assert_same(merged_rows((), ()), ())
        self.assert_same(merged_rows(one, one), one)

    def test_events(self):
        self.assert_same(self.assert_kept(events_of, TALE),
                         ((("a", 1), ("b", 1)), (("b", 2),), (("a", 2), ("c", 1)), (("b", 3),)))
        self.assert_same(events_of(tale=()), ())
        for name, i, wanted in (("a", 1, 0), ("a", 2, 2), ("a", 3, None), ("b", 1, 0), ("b", 2, 1), ("b", 3, 3),
                                ("b", 4, None), ("c", 1, 2), ("c", 2, None), ("z", 1, None)):
            self.assert_same(event_lot(tale=TALE, name=name, i=i), wanted)
        self.assertIsNone(event_lot((), "a", 1))

    def test_begins(self):
        for many in range(5):
            self.assertIs(begins_with(TALE, TALE[:many]), True)
            self.assertIs(begins_with(tale=TALE[:many], other=TALE), many == 4)
        self.assertIs(begins_with((), ()), True)
        self.assertIs(begins_with(TALE, (("a",),)), False)
        self.assertIs(begins_with(TALE, (("a", "b"), ("a",))), False)
        self.assertIs(begins_with(TALE, TALE + (("b",),)), False)


class TestOtherHalls(BellCase):

    def test_joined_halls_merge_their_rows(self):
        rng = source(93)
        for _ in range(40):
            one, other = some_hall(rng), some_hall(rng)
            other = Hall([("x" + name, ways) for name, ways in other.things], [
                ("x" + name if rng.random() < 0.5 else name + "x", word,
                 tuple("x" + told if isinstance(told, str) else told for told in arguments), mode)
                for name, word, arguments, mode in other.bells])
            joined = joined_halls(one, other)
            merged = merged_rows(ring_row(one, one.first), ring_row(other, other.first))
            self.assert_same(ring_row(joined, joined.first), merged)

    def test_rewound_halls_have_the_same_tale(self):
        rng = source(94)
        for _ in range(30):
            hall = some_hall(rng, 2)
            for clock in ((0, 3), (0, 1, 1), (0, 0, 2)):
                rewound = rewound_hall(hall, clock)
                row, led = ring_row(hall, hall.first), ring_row(rewound, hall.first)
                self.assertEqual(tale_of(row), tale_of(led))
                for (moment, _), (own, _) in zip(row, led):
                    # What rang at the clock's worth rings at the time.
                    self.assertIsNotNone(place_in(curve_after(moment[0], clock), own))
        self.assert_error(InvalidCurve, {"at": 0}, rewound_hall, HALL, (0, -1))

    def test_scaled_halls_have_the_same_row(self):
        rng = source(95)
        for _ in range(30):
            hall = some_hall(rng)
            for a, b in ((-1, 0), (2, -7), (-3, 99)):
                scaled = scaled_hall(hall, a, b)
                self.assert_same(ring_row(scaled, hall.first), ring_row(hall, hall.first))
        self.assert_error(InvalidSize, {"word": "a"}, scaled_hall, HALL, 0, 0)


if __name__ == "__main__":
    unittest.main()
