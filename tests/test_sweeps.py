"""Promises [75] to [77]: the tales of a handle at all its worths."""

import unittest
from fractions import Fraction

from curvebells.errors import InvalidPlace, InvalidSize
from curvebells.halls import Hall
from curvebells.handles import Handle
from curvebells.places import (
    is_place, place_order, ratio_against, ratio_of, ratio_place, simplest_between, whole_times,
)
from curvebells.rows import ring_row, tale_of
from curvebells.sweeps import Sweep, simplest_in
from tests.helpers import ANY_VALUES, BellCase, fraction, picture, ratio, some_curve, source

THINGS = [("cat", (("run", (1, 0, 1)),)), ("dog", (("hop", (0, 0, 1)),))]
EXAMPLE = Handle(Hall(THINGS, [("ding", "at", ("cat", 0), "any"), ("dong", "meet", ("cat", "dog"), "any")]), "cat", 1)
ROOT = ((-2, 0, 1), 2)


def some_handle(rng, degree=2, size=4, most=3):
    names = ("cat", "dog", "eel")[:rng.randint(1, 3)]
    things = [(name, (("w", some_curve(rng, rng.randint(0, degree), size)),)) for name in names]
    bells = []
    for name in "pqr"[:rng.randint(0, most)]:
        word = rng.choice(["at", "at", "still"] + ["meet", "near"] * (len(names) > 1) + ["mid"] * (len(names) > 2))
        told = {"at": lambda: (rng.choice(names), rng.randint(-3, 3)), "still": lambda: (rng.choice(names),),
                "meet": lambda: tuple(rng.sample(names, 2)), "mid": lambda: tuple(rng.sample(names, 3)),
                "near": lambda: tuple(rng.sample(names, 2)) + (rng.randint(1, 3),)}[word]()
        bells.append((name, word, told, rng.choice(["any", "any", "up", "down", "touch"])))
    return Handle(Hall(things, bells), rng.choice(names), rng.randint(0, 4))


def tale_by_hall(handle, one):
    hall = handle.hall_at(one)
    return tale_of(ring_row(hall, hall.first))


class TestSweep(BellCase):

    def test_example(self):
        sweep = Sweep(EXAMPLE)
        self.assertIs(sweep.handle, EXAMPLE)
        self.assertEqual([place_order(one, ((n, 1), 1)) for one, n in zip(sweep.breaks, (2, 0))], [0, 0])
        self.assertEqual(len(sweep.breaks), 2)
        self.assert_same(sweep.tales, ((("dong",), ("ding",), ("ding",)), (("dong",), ("ding",)), (("dong",),), (), ()))
        self.assert_same(simplest_in(sweep.part_of((-9, 4))), (-3, 1))

    def test_cells_and_parts(self):
        sweep = Sweep(handle=EXAMPLE)
        for one, cell in (((-5, 2), 0), ((-2, 1), 1), ((-1, 1), 2), ((0, 1), 3), ((7, 3), 4)):
            self.assert_same(sweep.cell_of(one), cell)
            self.assert_same(sweep.cell_of(ratio_place(one)), cell)
            self.assert_same(sweep.tale_at(one), sweep.tales[cell])
        self.assert_same(sweep.cell_of(worth=((-2, 0, 1), 1)), 2)
        self.assert_same(sweep.tale_at(worth=((0, -4, 0, 1), 1)), sweep.tales[1])
        two, nought = sweep.breaks
        self.assert_same(sweep.part_of((-9, 4)), (None, False, two, False))
        self.assert_same(sweep.part_of(worth=(-2, 1)), (two, True, two, True))
        self.assert_same(sweep.part_of(((-2, 0, 1), 1)), (two, False, nought, False))
        # At 0 and above nothing rings.
        self.assert_same(sweep.part_of((0, 1)), (nought, True, None, False))
        self.assert_same(sweep.part_of((9, 1)), (nought, True, None, False))
        self.assert_same(sweep.parts_where(lambda tale: ("ding",) in tale), ((None, False, two, True),))
        self.assert_same(sweep.parts_where(test=lambda tale: len(tale) != 1),
                         ((None, False, two, True), (nought, True, None, False)))
        self.assert_same(sweep.parts_where(lambda tale: True), ((None, False, None, False),))
        self.assert_same(sweep.parts_where(lambda tale: False), ())

    def test_no_break(self):
        for handle in (Handle(Hall(THINGS, ()), "cat", 2),
                       Handle(Hall(THINGS, [("x", "at", ("dog", 2), "any"), ("y", "still", ("dog",), "any")]), "cat", 0)):
            sweep = Sweep(handle)
            self.assert_same(sweep.breaks, ())
            self.assert_same(sweep.tales, (tale_by_hall(handle, (0, 1)),))
            self.assert_same(sweep.cell_of((5, 1)), 0)
            self.assert_same(sweep.part_of(ROOT), (None, False, None, False))

    def test_a_touch(self):
        # (t - 1) (t - 1) + s: two rings, a touch, none.
        hall = Hall([("cat", (("run", (1, -2, 1)),))], [("up", "at", ("cat", 0), "up"), ("down", "at", ("cat", 0), "down"),
                                                       ("touch", "at", ("cat", 0), "touch")])
        sweep = Sweep(Handle(hall, "cat", 0))
        self.assert_same([ratio_of(one) for one in sweep.breaks], [(-1, 1), (0, 1)])
        self.assert_same(sweep.tales, ((("up",),), (("up",),), (("down",), ("up",)), (("touch",),), ()))
        self.assert_same(sweep.part_of((-1, 1))[:2], (None, False))
        self.assert_same(sweep.part_of((-1, 1))[3], True)

    def test_several_turns(self):
        # The way is highest at 2, where it is 4, and lowest at 4, where it is 0.
        things = [("cat", (("run", (-16, 24, -9, 1)),))]
        for mode, tales in (("touch", ((), (("x",),), (), (("x",),), ())),
                            ("any", ((("x",),), (("x",),) * 2, (("x",),) * 3, (("x",),) * 2, (("x",),), (), ())),
                            ("down", ((), (), (("x",),), (), ()))):
            sweep = Sweep(Handle(Hall(things, [("x", "at", ("cat", 0), mode)]), "cat", 0))
            self.assert_same(sweep.tales, tales)
            self.assert_same([ratio_of(one) for one in sweep.breaks], [(-4, 1), (0, 1), (16, 1)][:len(tales) // 2])

    def test_lots_that_part(self):
        # Two bells at 3 ring at once at the worth 0 alone.
        hall = Hall([("cat", (("run", (0, 1)),)), ("dog", (("sit", (0, 1)),))],
                    [("x", "at", ("cat", 3), "any"), ("y", "at", ("dog", 3), "any")])
        sweep = Sweep(Handle(hall, "cat", 0))
        self.assert_same([ratio_of(one) for one in sweep.breaks], [(0, 1), (3, 1)])
        self.assert_same(sweep.tales, ((("y",), ("x",)), (("x", "y"),), (("x",), ("y",)), (("y",),), (("y",),)))
        # Two bells of one curve are one lot always.
        hall = Hall(hall.things, [("x", "at", ("cat", 3), "any"), ("y", "at", ("cat", 3), "up")])
        self.assert_same(Sweep(Handle(hall, "cat", 0)).tales, ((("x", "y"),), (), ()))

    def test_a_break_that_is_no_ratio(self):
        # t * t - 2 and t - s are nought at once for the root of two.
        hall = Hall([("cat", (("run", (0, 1)),)), ("dog", (("hop", (0, 0, 1)),))],
                    [("x", "at", ("cat", 0), "any"), ("y", "at", ("dog", 2), "any")])
        sweep = Sweep(Handle(hall, "cat", 0))
        self.assertEqual([place_order(one, other) for one, other in zip(sweep.breaks, (((-2, 0, 1), 1), ((0, 1), 1)))], [0, 0])
        self.assert_same(sweep.tales, ((("y",), ("x",)), (("x", "y"),), (("x",), ("y",)), (("y",),), (("y",),)))
        self.assert_same(sweep.tale_at(((-2, 0, 1), 1)), (("x", "y"),))
        self.assert_same(sweep.part_of(((-2, 0, 1), 1)), (sweep.breaks[0], True, sweep.breaks[0], True))

    def test_by_the_halls(self):
        rng = source(200)
        many = {"ratio": 0, "other": 0}
        for _ in range(200):
            handle = some_handle(rng)
            sweep = self.assert_kept(Sweep, handle)
            self.assertEqual(len(sweep.tales), 2 * len(sweep.breaks) + 1)
            self.assertTrue(all(is_place(one) for one in sweep.breaks))
            self.assertTrue(all(place_order(one, other) < 0 for one, other in zip(sweep.breaks, sweep.breaks[1:])))
            samples = [ratio(Fraction(rng.randint(-40, 40), rng.randint(1, 12))) for _ in range(6)]
            samples += [(n, 1) for n in range(-5, 6)]
            for one in sweep.breaks:
                told = ratio_of(one)
                many["other" if told is None else "ratio"] += 1
                if told is not None:
                    samples.append(told)
                # Right beside a break the tale is that of the next cell.
                whole = whole_times(one, 10 ** 9)
                samples += [ratio(Fraction(whole - 1, 10 ** 9)), ratio(Fraction(whole + 1, 10 ** 9))]
            for one in samples:
                self.assert_same(sweep.tale_at(one), tale_by_hall(handle, one))
                self.assertEqual(sweep.cell_of(one), sum(
                    (ratio_against(place, one) < 0) + (ratio_against(place, one) <= 0) for place in sweep.breaks))
            for at in range(len(sweep.breaks)):
                self.assertGreater(len(set(sweep.tales[2 * at:2 * at + 3])), 1)
        self.assertGreater(min(many.values()), 20)

    def test_parts_by_the_cells(self):
        rng = source(201)
        for _ in range(40):
            sweep = Sweep(some_handle(rng))
            wanted = rng.choice(sweep.tales)
            parts = sweep.parts_where(lambda tale: tale == wanted)
            ends = [None] + list(sweep.breaks) + [None]
            for cell, tale in enumerate(sweep.tales):
                if cell % 2 == 1:
                    worth = sweep.breaks[cell // 2]
                else:
                    worth = ratio_place(simplest_between(ends[cell // 2], ends[cell // 2 + 1]))
                inside = [part for part in parts if is_in(part, worth)]
                self.assertEqual(len(inside), int(tale == wanted))
                part = sweep.part_of(worth)
                self.assertTrue(is_in(part, worth))
                if tale == wanted:
                    self.assert_same(part, inside[0])
            for one, other in zip(parts, parts[1:]):
                self.assertLessEqual(place_order(one[2], other[0]), 0)
                self.assertFalse(place_order(one[2], other[0]) == 0 and (one[3] or other[1]))

    def test_wrong_worths(self):
        sweep = Sweep(EXAMPLE)
        for call in (sweep.cell_of, sweep.tale_at, sweep.part_of):
            for value, at in ((None, -1), (1, -1), ("1", -1), ((2, 4), 0), ((1, 0), 0), ((0, 2), 0), (((2, 0, 2), 1), 0),
                              (((-2, 0, 1), 3), 1), (((-2, 0, 1), 0), 1), ((1, 2, 3), -1), ([1, 2], -1), ((True, 2), 0),
                              (((-2, 0, 1), True), 1), ([(-2, 0, 1), 2], -1)):
                self.assert_error(InvalidPlace, {"at": at}, call, value)

    def test_kept(self):
        before = picture(EXAMPLE)
        sweep = Sweep(EXAMPLE)
        sweep.part_of((1, 2))
        self.assertEqual(picture(EXAMPLE), before)
        with self.assertRaises(TypeError):
            iter(sweep)

    def test_greatest(self):
        rng = source(202)
        for degree, bells in ((2, [("p", "near", ("a", "b", 7), "any"), ("q", "near", ("c", "a", 30), "any"),
                                   ("r", "near", ("a", "b", 50), "any")]),
                              (2, [("p", "near", ("a", "b", 7), "any"), ("q", "mid", ("c", "a", "b"), "any"),
                                   ("r", "still", ("a",), "any")]),
                              (4, [("p", "near", ("a", "b", 7), "any"), ("q", "near", ("c", "a", 30), "up")]),
                              (4, [("q", "mid", ("c", "a", "b"), "touch"), ("r", "still", ("a",), "any")])):
            for power in range(5):
                hall = Hall([(name, (("w", some_curve(rng, degree, 99)),)) for name in "abc"], bells)
                handle = Handle(hall, "a", power)
                sweep = self.assert_soon(3, Sweep, handle)
                for one in sweep.breaks:
                    near = ratio(Fraction(whole_times(one, 10 ** 6), 10 ** 6) - Fraction(1, 10 ** 7))
                    self.assert_same(sweep.tale_at(near), tale_by_hall(handle, near))


def is_in(part, place):
    """Whether a worth is in a part, by the ends."""
    low, has_low, high, has_high = part
    above = low is None or place_order(low, place) < 0 or (place_order(low, place) == 0 and has_low)
    return above and (high is None or place_order(place, high) < 0 or (place_order(place, high) == 0 and has_high))


class TestSimplest(BellCase):

    def test_by_hand(self):
        half, one, two = ((-1, 2), 1), ((-1, 1), 1), ((-2, 1), 1)
        for part, wanted in (((None, False, None, False), (0, 1)), ((half, True, half, True), (1, 2)),
                             ((half, False, one, False), (2, 3)), ((half, True, one, False), (1, 2)),
                             ((half, False, one, True), (1, 1)), ((one, True, two, True), (1, 1)),
                             ((one, False, two, False), (3, 2)), ((ROOT, True, ROOT, True), None),
                             ((ROOT, True, two, False), (3, 2)), ((((-2, 0, 1), 1), True, half, True), (0, 1)),
                             ((None, False, ((7, 2), 1), True), (-4, 1)), ((None, False, ((7, 1), 1), True), (-7, 1)),
                             ((((2, 1), 1), True, ((1, 1), 1), True), (-1, 1)), ((two, True, None, False), (2, 1)),
                             ((two, False, None, False), (3, 1)), ((((0, -2, 0, 1), 3), True, ROOT, True), None),
                             ((((-4, 0, 1), 2), True, two, True), (2, 1))):
            self.assert_same(simplest_in(part), wanted)
        self.assert_same(simplest_in(part=(half, True, None, False)), (1, 1))

    def test_by_trying(self):
        rng = source(203)
        for _ in range(80):
            low, high = sorted(Fraction(rng.randint(-30, 30), rng.randint(1, 9)) for _ in range(2))
            if low == high:
                continue
            has_low, has_high = rng.random() < 0.5, rng.random() < 0.5
            found = []
            for bottom in range(1, 100):
                tops = range(int(low * bottom) - 1, int(high * bottom) + 2)
                found = [Fraction(top, bottom) for top in tops]
                found = [one for one in found if low < one < high or (one == low and has_low) or (one == high and has_high)]
                if found:
                    break
            best = min(found, key=abs)
            part = (ratio_place(ratio(low)), has_low, ratio_place(ratio(high)), has_high)
            self.assertEqual(fraction(simplest_in(part)), best)

    def test_no_parts(self):
        one, two = ((-1, 1), 1), ((-2, 1), 1)
        for part in ((one, True, one, False), (one, False, one, True), (one, False, one, False), (two, True, one, True),
                     (None, True, one, True), (one, True, None, True), (one, 1, two, True), (one, True, two, None),
                     [one, True, two, True], (one, True, two), (one, True, two, True, 1), ((1, 1), True, two, True),
                     (one, True, ((2, 0, 1), 1), True), (ROOT, True, ((0, -2, 0, 1), 3), False), (None, None, None, None),
                     (one, True, list(two), True)):
            self.assert_error(InvalidSize, {"word": "part"}, simplest_in, part)
        for value in ANY_VALUES:
            self.assert_error(InvalidSize, {"word": "part"}, simplest_in, value)


if __name__ == "__main__":
    unittest.main()
