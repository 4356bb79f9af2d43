"""Promises [71] to [74]: the graphs of faces that feel a handle."""

import unittest
from decimal import Decimal, localcontext
from fractions import Fraction

from curvebells.branches import face_modes, graph_branches, graph_limits, graph_turns, hum_worth, worth_at
from curvebells.curves import curve_of
from curvebells.errors import InvalidPlace, InvalidSize
from curvebells.halls import Hall, faces_of, mode_fits
from curvebells.handles import Handle
from curvebells.places import is_moment, is_place, moments_of, place_order, place_sides, ratio_against, ratio_place
from tests.helpers import (
    ANY_VALUES, BellCase, decimal, fraction, known_sign, known_zeros, picture, ratio, some_curve, some_factors,
    some_known_place, source, times,
)

ROOT = ((-2, 0, 1), 2)


def handle_of(a, power=1, bells=(("ding", "at", ("cat", 0), "any"),)):
    """The handle of one thing whose way is a, by one bell that is at 0."""
    return Handle(Hall([("cat", (("run", curve_of(a)),)), ("dog", (("hop", (0, 0, 1)),))], bells), "cat", power)


def graph(face, number):
    """The worth by 80 figures at which a face is nought at a known time."""
    _, a, c, j = face
    with localcontext() as context:
        context.prec = 80
        total = Decimal(0)
        for integer in reversed(a):
            total = total * decimal(number) + integer
        return -total / (c * decimal(number) ** j if j else Decimal(c))


def is_near(place, number):
    """Whether a place is the number but for what 40 figures tell."""
    low, high = [ratio(Fraction(number) + at) for at in (Fraction(-1, 10 ** 40), Fraction(1, 10 ** 40))]
    return is_place(place) and ratio_against(place, low) >= 0 >= ratio_against(place, high)


def some_handle(rng, size=9):
    things = [(name, (("run", some_curve(rng, rng.randint(0, 4), size) if rng.random() < 0.9 else ()),))
              for name in ("cat", "dog", "eel")]
    bells = [("a", "meet", ("dog", "cat"), "any"), ("b", "near", ("dog", "cat", rng.randint(1, size)), "up"),
             ("c", "mid", ("eel", "cat", "dog"), "down"), ("d", "still", ("cat",), "any"),
             ("e", "at", ("cat", rng.randint(-size, size)), "touch"), ("f", "at", ("dog", 1), "any"),
             ("g", "near", ("cat", "eel", rng.randint(1, size)), "any")]
    return Handle(Hall(things, bells), "cat", rng.randint(0, 4))


def felt_of(handle):
    return [number for number, face in enumerate(handle.faces) if face[2] != 0]


class TestFaces(BellCase):

    def test_numbers(self):
        handle = handle_of((1, 0, 1), 1, [("a", "at", ("dog", 3), "any"), ("b", "at", ("cat", 3), "any")])
        for call, more in ((hum_worth, ()), (worth_at, (None,)), (graph_limits, ()), (graph_turns, ()),
                           (graph_branches, ()), (face_modes, (None,))):
            for value in (0, 2, -1, True, False, None, "1", (1,), [1], 10 ** 9):
                self.assert_error(InvalidSize, {"word": "face"}, call, handle, value, *more)
            for value in ANY_VALUES:
                if value != 1 or value is True:
                    self.assert_error(InvalidSize, {"word": "face"}, call, handle, value, *more)
        still = handle_of((1, 0, 1), 0, [("a", "still", ("cat",), "any")])
        self.assert_error(InvalidSize, {"word": "face"}, hum_worth, still, 0)

    def test_names(self):
        handle = handle_of((1, 0, 1))
        self.assertIsNone(hum_worth(f=0, handle=handle))
        self.assert_same(graph_limits(f=0, handle=handle), (-1, -1))
        self.assertEqual(len(graph_turns(f=0, handle=handle)), 1)
        self.assertEqual(len(graph_branches(f=0, handle=handle)), 2)
        self.assertTrue(is_near(worth_at(moment=((-1, 1), 1), f=0, handle=handle), Fraction(-2)))
        self.assert_same(face_modes(worth=(-2, 1), f=0, handle=handle), ("touch",))


class TestHums(BellCase):

    def test_by_hand(self):
        self.assert_same(hum_worth(handle_of((0, 3)), 0), (-3, 1))
        self.assert_same(hum_worth(handle_of(()), 0), (0, 1))
        self.assert_same(hum_worth(handle_of((0, 0, 0, 6), 3, [("a", "still", ("cat",), "any")]), 0), (-6, 1))
        self.assertIsNone(hum_worth(handle_of((1, 3)), 0))
        self.assertIsNone(hum_worth(handle_of((0, 0, 3)), 0))
        self.assertIsNone(hum_worth(handle_of((5,)), 0))
        hall = Hall([("cat", (("run", (0, 0, 1)),)), ("dog", (("run", (0, 0, 5)),)), ("eel", (("run", ()),))],
                    [("a", "mid", ("dog", "cat", "eel"), "any")])
        self.assert_same(hum_worth(Handle(hall, "cat", 2), 0), (3, 2))

    def test_all_else(self):
        handle = handle_of((0, 3))
        self.assertIsNone(graph_limits(handle, 0))
        self.assert_same(graph_turns(handle, 0), ())
        self.assert_same(graph_branches(handle, 0), ())
        for worth in ((-3, 1), (0, 1), ROOT):
            self.assert_same(face_modes(handle, 0, worth), ())
        for moment in (((-1, 1), 1), ROOT):
            self.assertTrue(is_near(worth_at(handle, 0, moment), Fraction(-3)))
        self.assert_error(InvalidPlace, {"at": -1}, face_modes, handle, 0, None)
        self.assert_error(InvalidPlace, {"at": 0}, worth_at, handle, 0, ((0, 1), 1))


class TestWorthAt(BellCase):

    def test_by_hand(self):
        handle = handle_of((1, 0, 1))
        self.assertEqual(place_order(worth_at(handle, 0, ((-1, 1), 1)), ratio_place((-2, 1))), 0)
        # -(1 + 2) / root of 2, the lesser root of 9/2.
        self.assertEqual(place_order(worth_at(handle, 0, ROOT), ((-9, 0, 2), 1)), 0)
        self.assertEqual(place_order(worth_at(handle_of((1, 0, 0, 1)), 0, ((-1, 0, 0, 2), 1)), ((27, 0, 0, 4), 1)), 0)
        # Another zero of the moment's curve is 0.
        self.assertEqual(place_order(worth_at(handle_of((0, 0, 1)), 0, ((0, -2, 0, 1), 3)), ((-2, 0, 1), 1)), 0)
        self.assertEqual(place_order(worth_at(handle_of((0, 0, 0, 1), 2), 0, ((0, -3, 1), 2)), ((3, 1), 1)), 0)
        self.assertEqual(place_order(worth_at(handle_of((0, 5), 0), 0, ((0, -3, 1), 2)), ((15, 1), 1)), 0)
        # Both places are led to one worth, or to worths of one size.
        self.assertEqual(place_order(worth_at(handle_of((0, 0, 1), 0), 0, ROOT), ((2, 1), 1)), 0)
        self.assertEqual(place_order(worth_at(handle_of((7,), 0), 0, ROOT), ((7, 1), 1)), 0)

    def test_no_moment(self):
        handle = handle_of((1, 0, 1))
        for value, at in ((None, -1), ((3, 2), 0), (((1, -2, 1), 1), 0), (((-2, 0, 1), 3), 1), (((-2, 0, 1), 1), 0),
                          (((0, 1), 1), 0), ([(-1, 1), 1], -1), (((-1, 1), True), 1), (((1, 1), 1), 0)):
            self.assert_error(InvalidPlace, {"at": at}, worth_at, handle, 0, value)
        for value in ANY_VALUES:
            if not is_moment(value):
                with self.assertRaises(InvalidPlace):
                    worth_at(handle, 0, value)

    def test_known_moments(self):
        rng = source(91)
        for _ in range(60):
            handle = some_handle(rng, rng.choice((3, 99, 99999)))
            for number in felt_of(handle):
                place, zero = some_known_place(rng, 6)
                if zero > 0:
                    worth = self.assert_kept(worth_at, handle, number, place)
                    self.assertTrue(is_near(worth, graph(handle.faces[number], zero)))

    def test_soon_at_the_limits(self):
        rng = source(92)
        for _ in range(10):
            handle = some_handle(rng, 99999)
            for moment in moments_of(some_curve(rng, 6, 10 ** 6)) + moments_of(some_curve(rng, 6, 10 ** 12 - 1)):
                for number in felt_of(handle):
                    worth = self.assert_soon(1, worth_at, handle, number, moment)
                    self.assertIs(is_place(worth), True)
                    self.assert_soon(1, face_modes, handle, number, worth)


class TestLimits(BellCase):

    def test_by_hand(self):
        for a, power, wanted in (
                ((1,), 1, (-1, (0, 1))), ((-1,), 1, (1, (0, 1))), ((1, 0, 1), 1, (-1, -1)), ((-1, 0, 1), 1, (1, -1)),
                ((0, 3, 1), 1, ((-3, 1), -1)), ((0, 3, -1), 1, ((-3, 1), 1)), ((2, 3), 1, (-1, (-3, 1))),
                ((0, 0, 1), 1, ((0, 1), -1)), ((0, 0, 5, 0, 2), 2, ((-5, 1), -1)), ((5, 1), 0, ((-5, 1), -1)),
                ((0, 1), 4, (-1, (0, 1))), ((0, 1, 0, 0, 7), 4, (-1, (-7, 1))), ((0, 0, 0, 1), 0, ((0, 1), -1))):
            self.assert_same(graph_limits(handle_of(a, power), 0), wanted)

    def test_sides_of_the_handle(self):
        hall = Hall([("cat", (("run", (0, 0, 1)),)), ("dog", (("run", (1, 0, 5)),)), ("eel", (("run", ()),))],
                    [("a", "mid", ("dog", "cat", "eel"), "any"), ("b", "meet", ("dog", "cat"), "any"),
                     ("c", "still", ("cat",), "any")])
        handle = Handle(hall, "cat", 2)
        self.assert_same(graph_limits(handle, 0), (1, (3, 2)))
        self.assert_same(graph_limits(handle, 1), (1, (4, 1)))
        self.assertIsNone(graph_limits(handle, 2))
        self.assert_same(hum_worth(handle, 2), (-1, 1))
        self.assert_same(graph_limits(Handle(hall, "cat", 3), 2), (-1, (0, 1)))
        self.assert_same(graph_limits(Handle(hall, "dog", 0), 0), ((-1, 1), -1))

    def test_far_times(self):
        rng = source(93)
        for _ in range(40):
            handle = some_handle(rng)
            for number in felt_of(handle):
                limits = graph_limits(handle, number)
                if hum_worth(handle, number) is not None:
                    self.assertIsNone(limits)
                    continue
                for limit, time in zip(limits, (Fraction(1, 10 ** 9), Fraction(10 ** 9))):
                    worth = graph(handle.faces[number], time)
                    if isinstance(limit, int):
                        self.assertTrue(worth * limit > 10 ** 6)
                    else:
                        self.assertTrue(abs(worth - decimal(fraction(limit))) < Decimal(10) ** -6)


def turning_handle(rng):
    """A handle, and the known times at which its graph turns, with 1 for each highest one, -1 for each lowest one."""
    by = rng.choice((-2, -1, 1))
    if rng.random() < 0.5:
        # The power is above all of a, so the slope may be any curve of degree 3.
        chosen = some_factors(rng, rng.randint(1, 4), 3)
        power = 4
        rise = times((by,), *chosen)
        if len(rise) + len(chosen[0]) - 1 <= 4 and rng.random() < 0.5:
            rise, chosen = times(rise, chosen[0]), chosen[1:]
        a = [12 * b // (4 - at) for at, b in enumerate(rise)]
    else:
        # The power is 0, so the slope is that of a, with another sign.
        chosen = some_factors(rng, rng.randint(1, 4), 3)
        power = 0
        rise = times((by,), *chosen)
        if len(rise) + len(chosen[0]) - 1 <= 4 and rng.random() < 0.5:
            rise, chosen = times(rise, chosen[0]), chosen[1:]
        a = [rng.randint(-9, 9)] + [-12 * b // (at + 1) for at, b in enumerate(rise)]
    zeros = [zero for zero in known_zeros(chosen) if zero > 0]
    signs = []
    for zero in zeros[::-1]:
        signs.insert(0, -(signs[0] if signs else (1 if rise[-1] > 0 else -1)))
    return handle_of(a, power), list(zip(zeros, signs))


class TestTurns(BellCase):

    def test_by_hand(self):
        turns = graph_turns(handle_of((1, 0, 0, 1)), 0)
        self.assertEqual(len(turns), 1)
        moment, worth, sign = turns[0]
        self.assertEqual([place_order(moment, ((-1, 0, 0, 2), 1)), place_order(worth, ((27, 0, 0, 4), 1))], [0, 0])
        self.assert_same(sign, 1)
        (moment, worth, sign), = graph_turns(handle_of((-2, 0, -1)), 0)
        self.assertEqual([place_order(moment, ROOT), place_order(worth, ((-8, 0, 1), 2)), sign], [0, 0, -1])
        self.assert_same(graph_turns(handle_of((1,)), 0), ())
        self.assert_same(graph_turns(handle_of((-1, 0, 1)), 0), ())

    def test_stands_still_and_goes_on(self):
        # The slope of (t - 1) ** 3 is nought at 1, of (t - 1) ** 4, too: there it turns.
        self.assert_same(graph_turns(handle_of((-1, 3, -3, 1), 0), 0), ())
        (moment, worth, sign), = graph_turns(handle_of((1, -4, 6, -4, 1), 0), 0)
        self.assertEqual([place_order(moment, ((-1, 1), 1)), place_order(worth, ((0, 1), 1)), sign], [0, 0, 1])

    def test_two_turns(self):
        # -(t - 1) (t - 3) as the slope of the graph: from 1 it falls to 3.
        turns = graph_turns(handle_of((0, 9, -6, 1), 0), 0)
        self.assertEqual([ratio_against(turn[0], (at, 1)) for turn, at in zip(turns, (1, 3))], [0, 0])
        self.assertEqual([ratio_against(turn[1], (at, 1)) for turn, at in zip(turns, (-4, 0))], [0, 0])
        self.assert_same([turn[2] for turn in turns], [-1, 1])

    def test_known_turns(self):
        rng = source(94)
        for _ in range(80):
            handle, wanted = turning_handle(rng)
            turns = self.assert_kept(graph_turns, handle, 0)
            self.assertEqual(len(turns), len(wanted))
            for (moment, worth, sign), (zero, kind) in zip(turns, wanted):
                self.assertTrue(is_moment(moment) and known_sign(moment[0], zero) == 0 and is_near(moment, zero))
                self.assertTrue(is_near(worth, graph(handle.faces[0], zero)))
                self.assert_same(sign, kind)

    def test_branches_by_hand(self):
        low, high = graph_branches(handle_of((1, 0, 1)), 0)
        self.assert_same((low[0], low[2], low[4]), (None, None, 1))
        self.assert_same((high[1], high[2], high[4]), (None, None, -1))
        for place, at in ((low[1], 1), (low[3], -2), (high[0], 1), (high[3], -2)):
            self.assertEqual(ratio_against(place, (at, 1)), 0)
        (begin, end, low, high, sign), = graph_branches(handle_of((1,)), 0)
        self.assert_same((begin, end, low, sign), (None, None, None, 1))
        self.assertEqual(ratio_against(high, (0, 1)), 0)
        (begin, end, low, high, sign), = graph_branches(handle_of((0, 3, 1), 1), 0)
        self.assert_same((begin, end, low, sign), (None, None, None, -1))
        self.assertEqual(ratio_against(high, (-3, 1)), 0)
        (begin, end, low, high, sign), = graph_branches(handle_of((-2, 3), 1), 0)
        self.assert_same((begin, end, high, sign), (None, None, None, -1))
        self.assertEqual(ratio_against(low, (-3, 1)), 0)

    def test_branches_by_turns_and_limits(self):
        rng = source(95)
        for _ in range(80):
            handle, _ = turning_handle(rng) if rng.random() < 0.6 else (some_handle(rng), None)
            for number in felt_of(handle):
                if hum_worth(handle, number) is None:
                    self.check_branches(handle, number)

    def check_branches(self, handle, number):
        """The branches go from limit to turn to limit, and each worth within is met once on each."""
        branches = self.assert_kept(graph_branches, handle, number)
        turns, limits = graph_turns(handle, number), graph_limits(handle, number)
        ends = [(None, limits[0])] + [(turn[0], turn[1]) for turn in turns] + [(None, limits[1])]
        self.assertEqual(len(branches), len(turns) + 1)
        for at, (begin, end, low, high, sign) in enumerate(branches):
            self.assert_same((begin, end), (ends[at][0], ends[at + 1][0]))
            self.assertEqual(sign, -branches[at - 1][4] if at else sign)
            if at < len(turns):
                self.assertEqual(sign, turns[at][2])
            for worth, (_, wanted), boundless in ((low, ends[at] if sign == 1 else ends[at + 1], -1),
                                                  (high, ends[at + 1] if sign == 1 else ends[at], 1)):
                if isinstance(wanted, int):
                    self.assertEqual(wanted, boundless)
                    self.assertIsNone(worth)
                else:
                    place = ratio_place(wanted) if isinstance(wanted[0], int) else wanted
                    self.assertTrue(is_place(worth) and place_order(worth, place) == 0)
            if low is not None and high is not None:
                self.assertEqual(place_order(low, high), -1)


class TestModes(BellCase):

    def test_by_hand(self):
        handle = handle_of((1, 0, 1))
        self.assert_same(face_modes(handle, 0, (-3, 1)), ("down", "up"))
        self.assert_same(face_modes(handle, 0, (-2, 1)), ("touch",))
        self.assert_same(face_modes(handle, 0, ((2, 1), 1)), ("touch",))
        self.assert_same(face_modes(handle, 0, (-1, 1)), ())
        self.assert_same(face_modes(handle, 0, (5, 1)), ())
        self.assert_same(face_modes(handle_of((2, 0, 1)), 0, ((-8, 0, 1), 1)), ("touch",))
        self.assert_same(face_modes(handle_of((2, 0, 1)), 0, ((-8, 0, 1), 2)), ())
        self.assert_same(face_modes(handle_of((2, 0, 1)), 0, ((-9, 0, 1), 1)), ("down", "up"))

    def test_ends_are_not_met(self):
        # 3 t + t t + s t at the worth -3 is t t, which is nought at the time 0 alone.
        self.assert_same(face_modes(handle_of((0, 3, 1)), 0, (-3, 1)), ())
        self.assert_same(face_modes(handle_of((0, 3, 1)), 0, (-4, 1)), ("up",))
        self.assert_same(face_modes(handle_of((2, 3)), 0, (-3, 1)), ())
        self.assert_same(face_modes(handle_of((2, 3)), 0, (-4, 1)), ("down",))

    def test_near_has_two_faces(self):
        bells = [("a", "near", ("cat", "dog", 2), "any")]
        handle = handle_of((0, 0, 1), 1, bells)
        # At the worth 1 cat less dog is t: the bell's sign is that of (t - 2) (t + 2); at -1 likewise.
        self.assert_same(face_modes(handle, 0, (1, 1)), ("up",))
        self.assert_same(face_modes(handle, 1, (1, 1)), ())
        self.assert_same(face_modes(handle, 0, (-1, 1)), ())
        self.assert_same(face_modes(handle, 1, (-1, 1)), ("up",))
        back = Handle(handle.hall, "dog", 1)
        self.assert_same(face_modes(back, 0, (-1, 1)), ("up",))
        self.assert_same(face_modes(back, 1, (1, 1)), ("up",))
        # 4 less s t: from above 2 into it, behind 0 out of it.
        into = handle_of((4, 0, 1), 1, bells)
        self.assert_same(face_modes(into, 0, (-1, 1)), ("down",))
        self.assert_same(face_modes(into, 1, (-1, 1)), ("up",))
        # (t - 2) (t - 2) - 2 touches -2 from within.
        touch = handle_of((2, 0, 2), 1, bells)
        self.assert_same(face_modes(touch, 0, (-4, 1)), ("up",))
        self.assert_same(face_modes(touch, 1, (-4, 1)), ("touch",))

    def test_no_worth(self):
        handle = handle_of((1, 0, 1))
        for value, at in ((None, -1), (3, -1), ((2, 4), 0), ((1, 0), 0), (((-2, 0, 1), 3), 1), (((1,), 1), 0),
                          ([1, 2], -1), ((True, 1), 0), ((1, True), 0), (((-2, 0, 1), 0), 1), ((1, 2, 3), -1)):
            self.assert_error(InvalidPlace, {"at": at}, face_modes, handle, 0, value)
        for value in ANY_VALUES:
            if not is_place(value) and value != (1, 2):
                with self.assertRaises(InvalidPlace):
                    face_modes(handle, 0, value)
        for worth in (((2, 1), 1), ((0, 1), 1), ((-2, 0, 1), 1), (0, 1), (-7, 3)):
            self.assertIsInstance(face_modes(handle, 0, worth), tuple)

    def test_by_the_signs_of_halls(self):
        rng = source(96)
        for _ in range(60):
            handle = some_handle(rng)
            worth = ratio(Fraction(rng.randint(-20, 20), rng.randint(1, 3)))
            hall = handle.hall_at(worth)
            for number in felt_of(handle):
                if hum_worth(handle, number) is not None:
                    continue
                bell = handle.faces[number][0]
                faces = faces_of(hall, hall.first, bell)
                face = faces[number - min(at for at, one in enumerate(handle.faces) if one[0] == bell)]
                wanted = []
                for moment in moments_of(face):
                    ahead, behind = 1, 1
                    for sides in [place_sides(one, moment) for one in faces]:
                        ahead, behind = ahead * sides[0], behind * sides[1]
                    wanted += [mode for mode in ("up", "down", "touch") if mode_fits(mode, ahead, behind)]
                self.assert_same(self.assert_kept(face_modes, handle, number, worth), tuple(wanted))
                self.assertEqual(face_modes(handle, number, ratio_place(worth)), tuple(wanted))

    def test_at_turns(self):
        rng = source(97)
        for _ in range(40):
            handle, wanted = turning_handle(rng)
            before = picture(handle)
            branches = graph_branches(handle, 0)
            for moment, worth, _ in graph_turns(handle, 0):
                modes = face_modes(handle, 0, worth)
                touches = [turn for turn in graph_turns(handle, 0) if place_order(turn[1], worth) == 0]
                self.assertEqual(len([mode for mode in modes if mode == "touch"]), len(touches))
                crossed = [one for one in branches if (one[2] is None or place_order(one[2], worth) < 0)
                           and (one[3] is None or place_order(worth, one[3]) < 0)]
                self.assertEqual([mode for mode in modes if mode != "touch"],
                                 ["down" if one[4] == 1 else "up" for one in crossed])
            self.assertEqual(len(branches), len(wanted) + 1)
            self.assertEqual(picture(handle), before)


if __name__ == "__main__":
    unittest.main()
