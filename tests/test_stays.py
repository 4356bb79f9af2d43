"""Promises [78] and [79]: papers by two ends that the tale is one between."""

import itertools
import unittest
from fractions import Fraction

from curvebells.branches import graph_turns
from curvebells.errors import InvalidSize
from curvebells.halls import Hall
from curvebells.handles import Handle
from curvebells.places import ratio_against, ratio_of, simplest_between, whole_times
from curvebells.stays import stay_holds, stay_paper
from curvebells.sweeps import Sweep
from tests.helpers import ANY_VALUES, BellCase, ratio, some_curve, source
from tests.test_sweeps import EXAMPLE, some_handle, tale_by_hall

LOW, HIGH = (-5, 2), (-7, 3)
FIRST = (((9, 20), 0), ((3, 4), 2), ((3, 2), 0), ((3, 1), 2), (None, 0))
SECOND = (((1, 3), 0), ((9, 20), 2), (None, 0))
STAY = ((LOW, HIGH, (FIRST, SECOND)),)
TALE = (("dong",), ("ding",), ("ding",))


def one_bell(way, mode, power, at=0):
    """A handle of one bell of a thing with this way."""
    return Handle(Hall([("cat", (("run", way),))], [("x", "at", ("cat", at), mode)]), "cat", power)


def has_stay(handle, low, high):
    """Whether there is a stay, by the words of [79]."""
    sweep = Sweep(handle)
    tales = sweep.tales[sweep.cell_of(low):sweep.cell_of(high) + 1]
    if len(set(tales)) > 1:
        return False
    for f, face in enumerate(handle.faces):
        if face[2] != 0 and handle.hall.bells[face[0]][3] == "any":
            for _, worth, _ in graph_turns(handle, f):
                if ratio_against(worth, low) >= 0 and ratio_against(worth, high) <= 0:
                    return False
    return True


class TestStays(BellCase):

    def holds(self, rows, tale, handle=EXAMPLE, low=LOW, high=HIGH):
        self.assert_same(stay_holds(handle, low, high, ((low, high, rows),)), tale)

    def test_example(self):
        self.assert_same(stay_holds(EXAMPLE, LOW, HIGH, STAY), TALE)
        self.assert_same(stay_holds(handle=EXAMPLE, low=LOW, high=HIGH, value=STAY), TALE)

    def test_several_pieces(self):
        middle = (-12, 5)
        two = ((LOW, middle, (FIRST, SECOND)), (middle, HIGH, (FIRST, SECOND)))
        self.assert_same(stay_holds(EXAMPLE, LOW, HIGH, two), TALE)
        for wrong in (two[:1], two[1:], two[::-1], two + two[1:], (two[0], (LOW, HIGH, (FIRST, SECOND))),
                      (two[0], (middle, (-9, 4), (FIRST, SECOND))), ((LOW, LOW, (FIRST, SECOND)),) + STAY,
                      STAY + ((HIGH, HIGH, (FIRST, SECOND)),), ((HIGH, LOW, (FIRST, SECOND)),)):
            self.assert_same(stay_holds(EXAMPLE, LOW, HIGH, wrong), None)

    def test_forms(self):
        for wrong in (None, (), list(STAY), (list(STAY[0]),), (STAY[0][:2],), (STAY[0] + (1,),), ((LOW, HIGH, [FIRST, SECOND]),),
                      ((LOW, HIGH, (FIRST,)),), ((LOW, HIGH, (FIRST, SECOND, SECOND)),), ((LOW, (-14, 6), (FIRST, SECOND)),),
                      ((None, HIGH, (FIRST, SECOND)),), (STAY[0], None)):
            self.assert_same(stay_holds(EXAMPLE, LOW, HIGH, wrong), None)
        for wrong in ((), None, list(SECOND), SECOND[:2], SECOND + SECOND[2:], (((1, 3), 0), ((9, 20), 2), [None, 0]),
                      (((1, 3), 0), ((9, 20), 2), (None, 0, 0)), (((1, 3), 0), ((9, 20), 2), (None, False)),
                      (((1, 3), False), ((9, 20), 2), (None, 0)), (((1, 3), 0), ((9, 20), True), (None, 0)),
                      (((1, 3), 0), ((9, 20), 3), (None, 0)), (((1, 3), 0), ((9, 20), -1), (None, 0)),
                      (((9, 20), 0), ((1, 3), 2), (None, 0)), (((1, 3), 0), ((1, 3), 0), ((9, 20), 2), (None, 0)),
                      (((0, 1), 0),) + SECOND, (((-1, 3), 0),) + SECOND, (((2, 6), 0), ((9, 20), 2), (None, 0)),
                      (((1, 3), 0), ((9, 20), 2), ((1, 1), 0)), (([1, 3], 0), ((9, 20), 2), (None, 0)),
                      (((1, 3), 0), (None, 2), (None, 0)), (((1, 3), 0), ((9, 20), None), (None, 0))):
            self.holds((FIRST, wrong), None)
        for value in ANY_VALUES:
            self.assert_same(stay_holds(EXAMPLE, LOW, HIGH, value), None)
            self.assert_same(stay_holds(EXAMPLE, LOW, HIGH, (value,)), None)
            self.holds((FIRST, value), None)
            self.holds((FIRST, (value, (None, 0))), None)
            self.holds(value, None)

    def test_marks_of_the_example(self):
        self.holds((FIRST, (((1, 4), 0), ((9, 20), 2), (None, 0))), TALE)
        # From 2/5 on the worth -5/2 is met at the end; it must be met within.
        for second in ((((2, 5), 0), ((9, 20), 2), (None, 0)), (((1, 3), 0), ((3, 7), 2), (None, 0)), ((None, 0),),
                       ((None, 1),), ((None, 2),), (((9, 20), 2), (None, 0)), (((1, 3), 0), (None, 2)),
                       (((1, 3), 2), ((9, 20), 2), (None, 0)), (((1, 3), 1), ((9, 20), 2), (None, 0)),
                       (((1, 3), 0), ((9, 20), 1), (None, 0)), (((1, 3), 0), ((9, 20), 0), (None, 0))):
            self.holds((FIRST, second), None)
        # A ring goes from below both worths to above both: one that only does half of it is none.
        for second in ((((1, 3), 0), ((9, 20), 2), ((1, 2), 2), (None, 0)), (((1, 4), 0), ((1, 3), 2), ((9, 20), 2), (None, 0)),
                       (((1, 3), 0), ((3, 7), 2), ((9, 20), 2), (None, 0)), (((1, 3), 0), ((2, 5), 2), ((9, 20), 2), (None, 0))):
            self.holds((FIRST, second), None)
        later = (((12, 25), 0),) + FIRST[1:]
        self.holds((later, SECOND), TALE)
        self.holds((later, (((1, 3), 0), ((9, 20), 2), ((12, 25), 2), (None, 0))), None)
        # The graph of the first face turns at 1: 1 is no time of its row, and lies within no ring.
        for first in ((((9, 20), 0), ((3, 4), 2), ((1, 1), 0), ((3, 2), 0), ((3, 1), 2), (None, 0)),
                      (((9, 20), 0), ((3, 2), 2), ((8, 5), 0), ((3, 1), 2), (None, 0)),
                      (((9, 20), 0), ((3, 4), 2), ((3, 2), 1), ((3, 1), 2), (None, 0)),
                      (((9, 20), 0), ((3, 4), 2), (None, 0)), (((9, 20), 0), ((3, 4), 2), (None, 1))):
            self.holds((first, SECOND), None)
        # Rings of unlike bells have no time within both.
        self.holds(((((2, 5), 0), ((3, 4), 2), ((3, 2), 0), ((3, 1), 2), (None, 0)), SECOND), None)

    def test_silent_branches(self):
        up = one_bell((1, 0, 1), "up", 1)
        # For s from -5/2 the graph rises up to 1, falls then; up rings where it falls.
        told = Sweep(up).tale_at(LOW)
        self.assertEqual(told, (("x",),))
        for row, wanted in (((((3, 4), 1), ((3, 2), 0), ((3, 1), 2), (None, 0)), told),
                            ((((9, 20), 0), ((3, 4), 1), ((3, 2), 0), ((3, 1), 2), (None, 0)), told),
                            ((((3, 4), 2), ((3, 2), 0), ((3, 1), 2), (None, 0)), None),
                            ((((3, 4), 1), ((3, 2), 0), ((3, 1), 1), (None, 0)), None),
                            ((((3, 4), 1), (None, 0)), None), (((None, 1),), None),
                            # At 1/2 it is nought for the first worth, and at 2 as well.
                            ((((1, 2), 0), ((3, 4), 1), ((3, 2), 0), ((3, 1), 2), (None, 0)), None),
                            ((((3, 4), 1), ((2, 1), 0), ((3, 1), 2), (None, 0)), None),
                            ((((3, 4), 3), ((3, 2), 0), ((3, 1), 2), (None, 0)), None),
                            ((((3, 4), -1), ((3, 2), 0), ((3, 1), 2), (None, 0)), None),
                            ((((3, 4), True), ((3, 2), 0), ((3, 1), 2), (None, 0)), None),
                            ((((3, 2), 1), ((3, 1), 2), (None, 0)), None)):
            self.holds((row,), wanted, up)

    def test_a_touch_at_an_end(self):
        # At -2 the graph is highest: the bell touches, and is silent, if it rings up or down.
        for mode, wanted in (("up", ()), ("down", ()), ("any", None), ("touch", None)):
            handle = one_bell((1, 0, 1), mode, 1)
            self.holds((((None, 0),),), wanted, handle, (-2, 1), (1, 1))
            self.assert_same(stay_paper(handle, (-2, 1), (1, 1)) is None, wanted is None)
            self.holds((((None, 0),),), (), handle, (-1, 1), (1, 1))
        self.holds((((None, 0),),), None, one_bell((1, 0, 1), "up", 1), (-3, 1), (1, 1))
        # At 1 the graph turns, so 1 is no time of the row, even where the face is not nought.
        for row in ((((1, 1), 0), (None, 0)), (((1, 2), 0), ((1, 1), 0), ((3, 2), 0), (None, 0))):
            self.holds((row,), None, one_bell((1, 0, 1), "up", 1), (-1, 1), (1, 1))
            self.holds((row,), None, one_bell((1, 0, 1), "any", 1), (-1, 1), (1, 1))
        # The touch must be within.
        self.holds(((((1, 1), 0), (None, 0)),), None, one_bell((1, 0, 1), "up", 1), (-2, 1), (1, 1))

    def test_faces_that_feel_nothing(self):
        things = [("cat", (("run", (0, 1)),)), ("dog", (("hop", (2, -3, 1)),))]
        for mode, row, wanted in (
                ("any", (((1, 2), 0), ((3, 2), 2), ((7, 4), 0), ((3, 1), 2), (None, 0)), (("x",), ("x",))),
                ("up", (((3, 2), 1), ((3, 1), 2), (None, 0)), (("x",),)), ("up", (((3, 2), 1), ((3, 1), 2), (None, 1)), (("x",),)),
                ("down", (((1, 2), 0), ((3, 2), 2), (None, 1)), (("x",),)), ("touch", (((3, 2), 1), (None, 1)), ()),
                ("touch", ((None, 1),), None), ("any", (((3, 2), 1), ((3, 1), 2), (None, 0)), None),
                ("up", (((1, 1), 0), ((3, 2), 1), ((3, 1), 2), (None, 0)), None), ("up", ((None, 0),), None),
                ("any", (((1, 2), 0), ((3, 1), 2), (None, 0)), None), ("any", (((3, 2), 2), ((3, 1), 2), (None, 0)), None),
                ("any", (((1, 2), 0), ((3, 2), 2), ((7, 4), 2), ((3, 1), 2), (None, 0)), None),
                ("up", (((3, 2), 2), ((3, 1), 2), (None, 0)), None), ("up", (((1, 1), 1), ((3, 1), 2), (None, 0)), None),
                ("up", (((3, 2), 1), ((2, 1), 1), (None, 0)), None), ("up", (((3, 2), 1), ((2, 1), 2), (None, 0)), None),
                ("down", (((1, 2), 0), ((3, 2), 2), ((2, 1), 1), (None, 0)), None)):
            handle = Handle(Hall(things, [("x", "at", ("dog", 0), mode)]), "cat", 1)
            self.holds((row,), wanted, handle)
        # What touches and is silent may be calm.
        for mode, row, wanted in (("up", ((None, 0),), ()), ("up", ((None, 1),), ()), ("any", ((None, 0),), None),
                                  ("any", (((1, 2), 0), ((3, 2), 2), (None, 0)), (("x",),)),
                                  ("touch", (((1, 2), 0), ((3, 2), 2), (None, 0)), (("x",),)),
                                  ("up", (((1, 2), 0), ((3, 2), 2), (None, 0)), None), ("touch", ((None, 1),), None)):
            handle = Handle(Hall([things[0], ("dog", (("hop", (1, -2, 1)),))], [("x", "at", ("dog", 0), mode)]), "cat", 1)
            self.holds((row,), wanted, handle)

    def test_faces_that_hum(self):
        things = [("cat", (("run", (1, 1)),)), ("dog", (("hop", (1,)),))]
        # The cat is at 1 for all times if s is -1; the dog is at 1 always.
        handle = Handle(Hall(things, [("x", "at", ("cat", 1), "any"), ("y", "at", ("dog", 1), "any")]), "cat", 1)
        self.assertEqual(Sweep(handle).tales, ((),))
        for rows, wanted in (((((None, 0),), ((None, 0),)), ()), (((((1, 1), 0), (None, 0)), ((None, 0),)), ()),
                             ((((None, 1),), ((None, 0),)), None), ((((None, 0),), ((None, 1),)), None),
                             (((((1, 1), 0), ((2, 1), 2), (None, 0)), ((None, 0),)), None)):
            self.holds(rows, wanted, handle, (-2, 1), (3, 1))

    def test_rings_of_one_graph(self):
        things = [("cat", (("run", (1, 0, 1)),)), ("dog", (("hop", (-2, 0, 1)),))]
        bells = [("x", "at", ("cat", 0), "up"), ("y", "at", ("cat", 0), "any"), ("z", "at", ("dog", 0), "any"),
                 ("w", "at", ("dog", 0), "up")]
        handle = Handle(Hall(things, bells), "cat", 1)
        low, high = (-4, 1), (-7, 2)
        self.assertEqual(Sweep(handle).tale_at(low), (("y",), ("w", "z"), ("x", "y")))
        ahead, behind, still = (((1, 5), 0), ((3, 4), 2)), (((2, 1), 0), ((5, 1), 2)), (((1, 1), 0), ((3, 2), 2), (None, 0))
        silent = (((3, 4), 1), *behind, (None, 0))
        rows = (silent, (*ahead, *behind, (None, 0)), still, still)
        self.holds(rows, (("y",), ("w", "z"), ("x", "y")), handle, low, high)
        wider = (((1, 1), 0), ((7, 4), 2), (None, 0))
        self.holds((rows[0], rows[1], still, wider), None, handle, low, high)
        self.holds((rows[0], (*ahead, ((2, 1), 0), ((6, 1), 2), (None, 0)), still, still), None, handle, low, high)
        # Alike stretches of rings that are not one are wrong, too.
        between = (((3, 2), 0), ((5, 1), 2), (None, 0))
        self.holds((rows[0], rows[1], between, between), None, handle, low, high)
        double = (((1, 5), 0), ((3, 4), 2), ((1, 1), 0), ((5, 1), 2), (None, 0))
        self.holds((rows[0], double, still, still), None, handle, low, high)

    def test_bells_of_one_moment_that_are_unlike(self):
        things = [("cat", (("run", (0, 1)),)), ("dog", (("hop", (-2, 0, 1)),)), ("eel", (("hop", (-3, 2)),))]
        handle = Handle(Hall(things, [("x", "at", ("dog", 0), "any"), ("y", "at", ("eel", 0), "any")]), "cat", 1)
        row = (((1, 1), 0), ((2, 1), 2), (None, 0))
        self.holds((row, row), None, handle)
        apart = ((((1, 1), 0), ((10, 7), 2), (None, 0)), (((10, 7), 0), ((2, 1), 2), (None, 0)))
        self.holds(apart, (("x",), ("y",)), handle)

    def test_what_feels_beside_what_does_not(self):
        things = [("cat", (("run", (0, 1)),)), ("dog", (("hop", (0, 1)),))]
        handle = Handle(Hall(things, [("x", "at", ("cat", 3), "any"), ("y", "at", ("dog", 3), "any")]), "cat", 0)
        low, high = (-1, 2), (-1, 3)
        alike = (((2, 1), 0), ((5, 1), 2), (None, 0))
        self.holds((alike, alike), None, handle, low, high)
        apart = ((((13, 4), 0), ((5, 1), 2), (None, 0)), (((2, 1), 0), ((13, 4), 2), (None, 0)))
        self.holds(apart, (("y",), ("x",)), handle, low, high)
        self.holds(((((3, 1), 0), ((5, 1), 2), (None, 0)), apart[1]), None, handle, low, high)

    def test_rings_of_one_bell(self):
        # One is near the other at 1 - s and at -1 - s: the stretches may have times in common, or be alike.
        things = [("cat", (("run", (0, 1)),)), ("dog", (("hop", ()),))]
        handle = Handle(Hall(things, [("x", "near", ("cat", "dog", 1), "any")]), "cat", 0)
        row = (((1, 1), 0), ((5, 1), 2), (None, 0))
        for other in (row, (((1, 1), 0), ((3, 1), 2), (None, 0)), (((5, 4), 0), ((7, 2), 2), (None, 0))):
            self.holds((row, other), (("x",), ("x",)), handle, (-3, 1), (-5, 2))
            self.holds((row, other), None, handle, (-3, 1), (3, 2))
        # So one piece will do, though each of both rings comes to times of the other one.
        self.assertEqual(len(stay_paper(handle, (-6, 1), (-2, 1))), 1)
        for modes in (("any", "any"), ("any", "up"), ("down", "any")):
            twins = [(name, "near", ("cat", "dog", 1), mode) for name, mode in zip("xy", modes)]
            twins = Handle(Hall(things, twins), "cat", 0)
            for low, high in (((-3, 1), (-5, 2)), ((-6, 1), (-2, 1))):
                paper = stay_paper(twins, low, high)
                self.assert_same(stay_holds(twins, low, high, paper), tale_by_hall(twins, low))

    def test_two_go_and_two_come(self):
        # At the worth -2 two rings of the first face come, as two of the second one go: the tale stays one.
        things = [("cat", (("run", (-16, 24, -9, 1)),)), ("dog", (("hop", ()),))]
        handle = Handle(Hall(things, [("x", "near", ("cat", "dog", 2), "any")]), "cat", 0)
        sweep = Sweep(handle)
        self.assert_same(sweep.tale_at((-2, 1)), (("x",),) * 4)
        self.assert_same(sweep.cell_of((-9, 4)), sweep.cell_of((-7, 4)))
        for low, high, is_there in (((-9, 4), (-7, 4), False), ((-2, 1), (-7, 4), False), ((-9, 4), (-2, 1), False),
                                    ((-9, 4), (-17, 8), True), ((-15, 8), (-7, 4), True)):
            paper = stay_paper(handle, low, high)
            self.assertEqual(paper is not None, is_there)
            self.assertEqual(has_stay(handle, low, high), is_there)
            if is_there:
                self.assert_same(stay_holds(handle, low, high, paper), (("x",),) * 4)

    def test_ends(self):
        for low, high in ((HIGH, LOW), (LOW, LOW), (None, HIGH), (LOW, None), (1, 2), ((1, 0), (2, 1)), ((2, 4), (1, 1)),
                          ([1, 2], (1, 1)), ((True, 2), (1, 1)), (((-1, 1), 1), ((-2, 1), 1)), ("1", "2"), ((1, 1), (1, 2))):
            self.assert_error(InvalidSize, {"word": "ends"}, stay_paper, EXAMPLE, low, high)
            self.assert_error(InvalidSize, {"word": "ends"}, stay_holds, EXAMPLE, low, high, None)
        for value in ANY_VALUES:
            self.assert_error(InvalidSize, {"word": "ends"}, stay_paper, EXAMPLE, value, value)
            self.assert_error(InvalidSize, {"word": "ends"}, stay_holds, EXAMPLE, (99, 1), value, STAY)


class TestPapers(BellCase):

    def test_by_the_sweeps(self):
        rng = source(210)
        told = {True: 0, False: 0}
        for _ in range(150):
            handle = some_handle(rng)
            sweep = Sweep(handle)
            ends = sorted(Fraction(rng.randint(-30, 30), rng.randint(1, 6)) for _ in range(2))
            ratios = [ratio_of(one) for one in sweep.breaks if ratio_of(one)]
            if ratios and rng.random() < 0.5:
                end = Fraction(*rng.choice(ratios))
                ends = sorted([end, end + Fraction(rng.choice((-1, 1)), rng.randint(1, 6))])
            if ends[0] == ends[1]:
                continue
            low, high = [ratio(end) for end in ends]
            paper = self.assert_kept(stay_paper, handle, low, high)
            told[paper is not None] += 1
            self.assertEqual(paper is not None, has_stay(handle, low, high))
            if paper is not None:
                self.assert_same(stay_holds(handle, low, high, paper), sweep.tale_at(low))
                self.check_changed(rng, handle, low, high, paper, sweep)
        self.assertGreater(min(told.values()), 30)

    def check_changed(self, rng, handle, low, high, paper, sweep):
        """A paper that is changed a little shows the right tale, or none."""
        for _ in range(10):
            pieces = [[begin, end, [list(row) for row in rows]] for begin, end, rows in paper]
            if not handle.faces:
                return
            row = rng.choice(rng.choice(pieces)[2])
            at = rng.randrange(len(row))
            chance = rng.random()
            if chance < 0.4:
                row[at] = (row[at][0], rng.randint(0, 2))
            elif chance < 0.7 and row[at][0] is not None:
                row[at] = (ratio(Fraction(*row[at][0]) * Fraction(rng.randint(1, 9), rng.randint(1, 9))), row[at][1])
            elif len(row) > 1 and at + 1 < len(row):
                del row[at]
            value = tuple((begin, end, tuple(tuple(one) for one in rows)) for begin, end, rows in pieces)
            self.assertIn(stay_holds(handle, low, high, value), (None, sweep.tale_at(low)))

    def test_no_stay_shows_another_tale(self):
        # Where there is none, papers of nearby ends don't hold.
        rng = source(211)
        for _ in range(100):
            handle = some_handle(rng)
            sweep = Sweep(handle)
            for one in sweep.breaks:
                whole = whole_times(one, 1000)
                low, high = ratio(Fraction(whole - 1, 1000)), ratio(Fraction(whole + 1, 1000))
                self.assertIsNone(stay_paper(handle, low, high))
                near = ratio(Fraction(whole - 2, 1000))
                paper = stay_paper(handle, near, low)
                if paper is not None:
                    value = paper[:-1] + ((paper[-1][0], high, paper[-1][2]),)
                    self.assertIsNone(stay_holds(handle, near, high, value))

    def check_there(self, handle, low, high):
        paper = stay_paper(handle, low, high)
        self.assertIsNotNone(paper)
        self.assert_same(stay_holds(handle, low, high, paper), tale_by_hall(handle, low))

    def test_turns_that_are_no_ratios(self):
        # -(1 + 2 t t) / t is highest at half the root of two.
        for mode in ("up", "down"):
            for high in ((-29, 10), (-2829, 1000), (-5657, 2000), (-707107, 250000)):
                self.check_there(one_bell((1, 0, 2), mode, 1), (-3, 1), high)
                self.check_there(one_bell((-1, 0, -2), mode, 1), (-high[0], high[1]), (3, 1))
        self.check_there(one_bell((1, 0, 2), "any", 1), (-3, 1), (-29, 10))

    def test_ends_that_are_met_at_simple_times(self):
        for mode in ("up", "down", "any"):
            self.check_there(one_bell((-1, 0, -1), mode, 1), (5, 2), (8, 3))
            self.check_there(one_bell((1, 0, 1), mode, 1), (-8, 3), (-5, 2))

    def test_branches_between_turns(self):
        for mode in ("up", "down", "touch", "any"):
            for way in ((-16, 24, -9, 1), (16, -24, 9, -1), (-35, 50, -12, 1)):
                handle = one_bell(way, mode, 0)
                self.check_there(handle, (-1, 2), (-1, 3))
                self.check_there(handle, (1, 3), (1, 2))
                for low, high in (((-3, 1), (-1, 1)), ((1, 1), (3, 1)), ((-399, 100), (-1, 100))):
                    if has_stay(handle, low, high):
                        self.check_there(handle, low, high)

    def test_silent_moments_of_what_feels_nothing(self):
        things = [("cat", (("run", (0, 1)),)), ("dog", (("hop", (-6, 11, -6, 1)),)), ("eel", (("hop", (3, -4, 1)),))]
        for modes in itertools.product(("up", "down", "touch", "any"), repeat=2):
            bells = [("x", "at", ("dog", 0), modes[0]), ("y", "at", ("eel", 0), modes[1]), ("z", "at", ("dog", 0), "up")]
            self.check_there(Handle(Hall(things, bells), "cat", 1), (-1, 2), (5, 1))
        bells = [("x", "at", ("dog", 0), "touch"), ("y", "at", ("eel", 0), "down"), ("z", "at", ("cat", 2), "any")]
        self.check_there(Handle(Hall(things, bells), "cat", 0), (-1, 2), (1, 2))

    def test_wide_ends(self):
        rng = source(212)
        for _ in range(20):
            handle = some_handle(rng)
            sweep = Sweep(handle)
            ends = [None] + list(sweep.breaks) + [None]
            for low, high in zip(ends, ends[1:]):
                one = simplest_between(low, high)
                near = [ratio(Fraction(*one) - Fraction(1, 100)), ratio(Fraction(*one) + Fraction(1, 100))]
                part = sweep.part_of(one)
                if all(sweep.part_of(end) == part for end in near):
                    paper = stay_paper(handle, *near)
                    self.assertEqual(paper is not None, has_stay(handle, *near))
                    if paper is not None:
                        self.assert_same(stay_holds(handle, *near, paper), tale_by_hall(handle, one))

    def test_greatest(self):
        rng = source(213)
        for degree, bells in ((2, [("p", "near", ("a", "b", 7), "any"), ("q", "near", ("c", "a", 30), "up"),
                                   ("r", "near", ("a", "b", 50), "down")]),
                              (2, [("p", "near", ("a", "b", 7), "any"), ("q", "mid", ("c", "a", "b"), "any"),
                                   ("r", "still", ("a",), "touch")]),
                              (4, [("p", "near", ("a", "b", 7), "any"), ("q", "near", ("c", "a", 30), "up")])):
            for power in range(5):
                hall = Hall([(name, (("w", some_curve(rng, degree, 99)),)) for name in "abc"], bells)
                handle = Handle(hall, "a", power)
                for low, high in (((-1000, 1), (-100, 1)), ((-1, 1), (1, 1)), ((100, 1), (2000, 1)), ((10, 1), (100, 1))):
                    paper = self.assert_soon(4, stay_paper, handle, low, high)
                    if paper is not None:
                        self.assert_same(self.assert_soon(4, stay_holds, handle, low, high, paper), tale_by_hall(handle, low))


if __name__ == "__main__":
    unittest.main()
