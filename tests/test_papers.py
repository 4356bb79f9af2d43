"""Promises [15] to [17]: seats and papers."""

import itertools
import unittest
from fractions import Fraction

from curvebells.curves import curve_sign
from curvebells.cuts import common_curve, cut_count, cuts_hold, plain_curve, sign_changes
from curvebells.papers import place_paper, place_paper_holds, seat_holds, seat_of, sign_paper, sign_paper_holds
from curvebells.places import place_order, place_sign, places_of, ratio_place
from tests.helpers import (
    ANY_VALUES, OTHER, SHARED, WIDE, BellCase, fraction, known_sign, root_order, some_curve, some_known_place, source,
    times,
)

ROOT = ((-2, 0, 1), 2)
THREE = ((0, -2, 0, 1), 3)
SEAT = ((1, 1), (3, 2), ())
HALF = ((-1, 0, 4), 2)
CLOSE = (-2, 4 * 10 ** 5, -2 * 10 ** 10, 0, 0, 0, 0, 1)


def is_seat(place, seat):
    """Whether a triple of ratios and cuts is a seat, by the words of the promise."""
    f, number = place
    low, high, cuts = seat
    if not cuts_hold(f, None, low, cuts) or cut_count(f, None, low, cuts) != number - 1:
        return False
    if fraction(low) == fraction(high):
        return curve_sign(f, low) == 0
    return (fraction(low) < fraction(high) and curve_sign(f, low) != 0 and curve_sign(f, high) != 0
            and sign_changes(f, low, high) == 1)


class TestSeats(BellCase):

    def test_by_hand(self):
        self.assertIs(seat_holds(ROOT, SEAT), True)
        self.assertIs(seat_holds(place=ROOT, value=((0, 1), (2, 1), ())), True)
        self.assertIs(seat_holds(HALF, ((1, 2), (1, 2), ((0, 1),))), True)
        self.assertIs(seat_holds(HALF, ((1, 2), (1, 2), ())), True)
        self.assertIs(seat_holds(((-1, 1), 1), ((1, 1), (1, 1), ())), True)
        self.assertIs(seat_holds(((-1, 1), 1), ((0, 1), (2, 1), ((-7, 2),))), True)

    def test_each_condition(self):
        for place, wrong in (
                (ROOT, ((-2, 1), (-1, 1), ())),                # the first zero's span
                (ROOT, ((3, 2), (2, 1), ())),                  # no zero within
                (ROOT, ((3, 2), (1, 1), ())),                  # low above high
                (ROOT, ((2, 1), (1, 1), ((0, 1),))),
                (ROOT, ((-2, 1), (2, 1), ())),                 # two changes
                (ROOT, ((1, 1), (1, 1), ())),                  # not 0 there
                (ROOT, ((1, 1), (3, 2), ((2, 1),))),           # a cut that is not below
                (ROOT, ((1, 1), (3, 2), ((1, 1),))),
                (((-2, 0, 1), 1), SEAT),                       # another number
                (((-1, 1), 1), ((1, 1), (2, 1), ())),          # 0 at the low
                (((-1, 1), 1), ((0, 1), (1, 1), ())),          # 0 at the high
                (((0, -1, 1), 2), ((0, 1), (2, 1), ())),
                (((0, -2, 1), 1), ((-1, 1), (2, 1), ())),      # 0 at the high, one zero within
                (((0, -1, 1), 1), ((1, 1), (1, 1), ((1, 2),))),
                (((0, -1, 1), 2), ((0, 1), (0, 1), ())),
                (((0, 2, -3, 1), 3), ((3, 2), (3, 1), ()))):   # two changes ahead without a cut
            self.assertIs(seat_holds(place, wrong), False, (place, wrong))
        self.assertIs(seat_holds(((0, 2, -3, 1), 3), ((3, 2), (3, 1), ((1, 2),))), True)

    def test_wrong_forms(self):
        for wrong in (list(SEAT), ((1, 1), (3, 2)), SEAT + ((),), ([1, 1], (3, 2), ()), ((1, 1), [3, 2], ()),
                      ((1, 1), (3, 2), []), ((2, 2), (3, 2), ()), ((1, 1), (6, 4), ()), ((True, 1), (3, 2), ()),
                      ((1, 1), (3, 2), None), ((1, 1), (3, 2), (0,)), (None, (3, 2), ()), ((1, 1), None, ()),
                      ((1, 1), (3, -2), ()), ((1, 0), (3, 2), ())):
            self.assertIs(seat_holds(ROOT, wrong), False, wrong)
        for value in ANY_VALUES:
            self.assertIs(seat_holds(ROOT, value), False)
            self.assertIs(seat_holds(ROOT, ((1, 1), (3, 2), value)), value in ((), ((1, 2), (3, 4))))

    def test_seat_of(self):
        rng = source(41)
        for _ in range(120):
            place, zero = some_known_place(rng)
            for n in (1, 7, 10 ** 6):
                seat = seat_of(place, n)
                self.assertIs(seat.__class__, tuple)
                self.assertIs(seat_holds(place, seat), True)
                self.assertTrue(is_seat(place, seat))
                low, high = fraction(seat[0]), fraction(seat[1])
                self.assertTrue(high - low <= Fraction(1, n))
                self.assertTrue(root_order(low, zero) <= 0 <= root_order(high, zero))
            self.assertEqual(seat_of(place), seat_of(n=1, place=place))
            self.assertTrue(fraction(seat_of(place)[1]) - fraction(seat_of(place)[0]) <= 1)

    def test_changed_seats(self):
        rng = source(42)
        for _ in range(150):
            place, _ = some_known_place(rng)
            seat = seat_of(place, rng.randint(1, 9))
            other, _ = some_known_place(rng)
            low, high, cuts = seat_of(other, rng.randint(1, 9))
            for value in ((low, seat[1], seat[2]), (seat[0], high, seat[2]), (seat[0], seat[1], cuts),
                          (seat[0], seat[0], seat[2]), (seat[1], seat[1], seat[2]), (low, high, cuts),
                          (seat[1], seat[0], seat[2])):
                self.assertIs(seat_holds(place, value), is_seat(place, value))


class TestPlacePapers(BellCase):

    def test_by_hand(self):
        end = ((3, 2), (3, 2), ())
        self.assertIs(place_paper_holds(ROOT, ratio_place((3, 2)), ("less", SEAT, end)), True)
        self.assertIs(place_paper_holds(one=ratio_place((3, 2)), other=ROOT, value=("more", end, SEAT)), True)
        same = ("same", (-2, 0, 1), SEAT, ((1, 1), (2, 1), ()))
        self.assertIs(place_paper_holds(ROOT, ROOT, same), True)
        self.assertIs(place_paper_holds(ROOT, ROOT, ("same", (2, 0, -1), SEAT, SEAT)), True)

    def test_less_and_more(self):
        end = ((3, 2), (3, 2), ())
        for wrong in (("more", SEAT, end), ("less", end, SEAT), ("more", end, SEAT), ("same", SEAT, end),
                      ("less", SEAT, ((1, 1), (2, 1), ())), ("less", SEAT, end, end), ("less", SEAT), ("less", SEAT, end, SEAT, end), ("same", (-2, 0, 1), end, SEAT, end),
                      ["less", SEAT, end], (SEAT, end), ("Less", SEAT, end), (-1, SEAT, end), ("less", end),
                      ("less", SEAT, ((3, 2), (3, 2), []))):
            self.assertIs(place_paper_holds(ROOT, ratio_place((3, 2)), wrong), False, wrong)
        # Seats that share more than an end tell nothing.
        over = ("less", ((1, 1), (2, 1), ()), end)
        self.assertIs(place_paper_holds(ROOT, ratio_place((3, 2)), over), False)

    def test_four_times_the_same_ratio(self):
        one, other = ((-1, 1), 1), ((-1, 0, 1), 2)
        seat, second = ((1, 1), (1, 1), ()), ((1, 1), (1, 1), ((0, 1),))
        self.assertIs(seat_holds(one, seat) and seat_holds(other, second), True)
        self.assertIs(place_paper_holds(one, other, ("less", seat, second)), False)
        self.assertIs(place_paper_holds(one, other, ("more", seat, second)), False)
        self.assertIs(place_paper_holds(one, other, ("same", (-1, 1), seat, second)), True)
        self.assertIs(place_paper_holds(one, other, ("same", (-1, 0, 1), seat, second)), False)

    def test_same(self):
        first, second = ((1, 1), (2, 1), ((0, 1),)), ((-1, 1), (3, 2), ((-2, 1),))
        one, other = (times((-2, 0, 1), (5, 1)), 3), ROOT
        seat, wide = seat_of(one, 4), ((1, 1), (2, 1), ())
        self.assertIs(place_paper_holds(one, other, ("same", (-2, 0, 1), seat, wide)), True)
        for shared in ((2, 0, -1), (-4, 0, 2), one[0], (), (1,), (-1,), (5, 1), None, [-2, 0, 1], (-2, 0, True), 0):
            wanted = shared == (2, 0, -1)
            self.assertIs(place_paper_holds(one, other, ("same", shared, seat, wide)), wanted, shared)
            self.assertIs(place_paper_holds(other, one, ("same", shared, wide, seat)), wanted, shared)
        self.assertIs(place_paper_holds(other, other, ("same", (-2, 0, 1), first, second)), True)
        for value in (("same", (-2, 0, 1), seat), ("less", (-2, 0, 1), seat, wide), ("same", seat, wide),
                      ("same", (-2, 0, 1), wide, seat), ("same", (-2, 0, 1), seat, wide, wide),
                      ["same", (-2, 0, 1), seat, wide]):
            self.assertIs(place_paper_holds(one, other, value), False)

    def test_same_with_one_ratio(self):
        one, other = HALF, ((-1, 2), 1)
        exact, wide = ((1, 2), (1, 2), ()), ((0, 1), (2, 1), ())
        for seat, second in ((exact, exact), (exact, wide), (wide, exact), (wide, wide)):
            self.assertIs(place_paper_holds(one, other, ("same", (-1, 2), seat, second)), True)
            self.assertIs(place_paper_holds(one, other, ("same", (1, 2), seat, second)), False)

    def test_same_needs_what_both_share(self):
        # Of 2 t t - 9 t + 9, zeros 3/2 and 3, the shared span must have one alone.
        f = (9, -9, 2)
        low, high = ((1, 1), (2, 1), ()), ((2, 1), (4, 1), ((7, 4),))
        self.assertIs(seat_holds((f, 1), low) and seat_holds((f, 2), high), True)
        self.assertIs(place_paper_holds((f, 1), (f, 2), ("same", f, low, high)), False)
        self.assertIs(place_paper_holds((f, 1), (f, 2), ("less", low, high)), True)
        self.assertIs(place_paper_holds((f, 2), (f, 1), ("more", high, low)), True)

    def test_what_is_shared_may_need_shorter_seats(self):
        wide = ((1, 1), (2, 1), ((3, 4), (1, 4)))
        self.assertEqual([sign_changes(f, (1, 1), (2, 1)) for f in (WIDE[0], OTHER[0], SHARED)], [1, 1, 3])
        seats = ((1, 1), (2, 1), ((1, 4),)), ((1, 1), (2, 1), ((0, 1), (13, 20)))
        self.assertIs(seat_holds(WIDE, seats[0]) and seat_holds(OTHER, seats[1]), True)
        self.assertIs(seat_holds(WIDE, wide), False)
        self.assertIs(place_paper_holds(WIDE, OTHER, ("same", SHARED) + seats), False)
        paper = place_paper(WIDE, OTHER)
        self.assertEqual(paper[:2], ("same", SHARED))
        self.assertIs(place_paper_holds(WIDE, OTHER, paper), True)
        for f in (SHARED, OTHER[0]):
            self.assertIs(sign_paper_holds(f, WIDE, (0, SHARED, seats[0])), False)
            paper = sign_paper(f, WIDE)
            self.assertEqual(paper[:2], (0, SHARED))
            self.assertIs(sign_paper_holds(f, WIDE, paper), True)

    def test_papers_of_all_orders(self):
        rng = source(43)
        sorts = {-1: "less", 0: "same", 1: "more"}
        for _ in range(250):
            (one, first), (other, second) = some_known_place(rng, 5), some_known_place(rng, 5)
            paper = self.assert_kept(place_paper, one, other)
            self.assertIs(place_paper_holds(one, other, paper), True)
            self.assertEqual(paper[0], sorts[root_order(first, second)])
            for word in ("less", "more", "same"):
                value = (word,) + paper[1:]
                self.assertIs(place_paper_holds(one, other, value), word == paper[0])
            shared = common_curve(one[0], other[0])
            if paper[0] != "same":
                self.assertIs(place_paper_holds(one, other, ("same", shared) + paper[1:]), False)
            else:
                self.assertIs(place_paper_holds(one, other, ("less",) + paper[2:]), False)
                self.assertIs(place_paper_holds(one, other, ("more",) + paper[2:]), False)
            self.assertIs(place_paper_holds(other, one, paper), paper[0] == "same" and
                          seat_holds(other, paper[-2]) and seat_holds(one, paper[-1]))

    def test_any_value(self):
        for value in ANY_VALUES:
            self.assertIs(place_paper_holds(ROOT, ROOT, value), False)
            self.assertIs(place_paper_holds(ROOT, ROOT, ("same", value, SEAT, SEAT)), value == (-2, 0, 1))
            self.assertIs(place_paper_holds(ROOT, ROOT, ("same", (-2, 0, 1), value, SEAT)), False)
            self.assertIs(place_paper_holds(ROOT, ROOT, (value, (-2, 0, 1), SEAT, SEAT)), False)

    def test_soon_at_the_limits(self):
        for one, other in itertools.product((1, 2, 3), repeat=2):
            paper = self.assert_soon(2, place_paper, (CLOSE, one), (CLOSE, other))
            self.assertIs(self.assert_soon(2, place_paper_holds, (CLOSE, one), (CLOSE, other), paper), True)
        rng = source(44)
        for _ in range(8):
            f, g = [plain_curve(some_curve(rng, 7, 10 ** 12 - 1)) for _ in range(2)]
            for one, other in itertools.product(places_of(f), places_of(g)):
                paper = self.assert_soon(1, place_paper, one, other)
                self.assertIs(self.assert_soon(1, place_paper_holds, one, other, paper), True)
                self.assertEqual(paper[0], ("same", "more", "less")[place_order(one, other)])
                self.assertIs(seat_holds(one, self.assert_soon(1, seat_of, one, 10 ** 6)), True)


class TestSignPapers(BellCase):

    def test_by_hand(self):
        self.assertIs(sign_paper_holds((-3, 2), ROOT, (-1, None, ((1, 1), (3, 2), ()))), True)
        self.assertIs(sign_paper_holds(f=(-3, 2), place=ROOT, value=(1, None, SEAT)), False)
        self.assertIs(sign_paper_holds((-3, 2), ROOT, (-1, None, ((1, 1), (2, 1), ()))), False)
        self.assertIs(sign_paper_holds((-1, 1), ROOT, (1, None, SEAT)), True)
        self.assertIs(sign_paper_holds((7,), ROOT, (1, None, SEAT)), True)
        self.assertIs(sign_paper_holds((4, 0, -4, 0, 1), ROOT, (0, (-2, 0, 1), SEAT)), True)
        self.assertIs(sign_paper_holds((4, 0, -4, 0, 1), ROOT, (0, (2, 0, -1), SEAT)), True)
        self.assertIs(sign_paper_holds((4, 0, -4, 0, 1), ROOT, (0, (4, 0, -4, 0, 1), SEAT)), False)

    def test_at_a_ratio(self):
        seat = ((1, 2), (1, 2), ())
        self.assertIs(sign_paper_holds((-1, 2), HALF, (0, (-1, 2), seat)), True)
        self.assertIs(sign_paper_holds((-1, 2), HALF, (0, (1, 2), seat)), False)
        self.assertIs(sign_paper_holds((1, 2), HALF, (1, None, seat)), True)
        self.assertIs(sign_paper_holds((1, 2), HALF, (-1, None, seat)), False)
        self.assertIs(sign_paper_holds((1, 2), HALF, (0, (1, 2), seat)), False)
        self.assertIs(sign_paper_holds((-1, 2), HALF, (0, None, seat)), False)
        # Two changes nearby do not matter at a ratio.
        self.assertIs(sign_paper_holds((2, -9, 9), HALF, (-1, None, seat)), True)

    def test_of_no_curve(self):
        self.assertIs(sign_paper_holds((), ROOT, (0, (), SEAT)), True)
        for value in ((0, (-2, 0, 1), SEAT), (0, None, SEAT), (0, [], SEAT), (1, None, SEAT), (-1, None, SEAT),
                      (0, (), ((3, 2), (2, 1), ())), (0, (1,), SEAT)):
            self.assertIs(sign_paper_holds((), ROOT, value), False)
        self.assertIs(sign_paper_holds((1, 1), ROOT, (0, (), SEAT)), False)

    def test_wrong_values(self):
        for f, wrong in (((-3, 2), (-1, None, SEAT, 0)), ((-3, 2), [-1, None, SEAT]), ((-3, 2), (-1, None)),
                         ((-1, 1), (True, None, SEAT)), ((-1, 1), (2, None, SEAT)), ((-1, 1), (1, (), SEAT)),
                         ((-1, 1), (1, (-2, 0, 1), SEAT)), ((-1, 1), (1, None, ((1, 1), (2, 1), ((3, 1),)))),
                         ((-2, 0, 1), (False, (-2, 0, 1), SEAT)), ((-2, 0, 1), (0, [-2, 0, 1], SEAT)),
                         ((-2, 0, 1), (0, (1,), SEAT)), ((-2, 0, 1), (1, None, SEAT)), ((5,), (-1, None, SEAT)),
                         ((-3, 2), (0, (-3, 2), SEAT)), ((-2, 0, 1), (0, (-3, 2), SEAT)), ((1, 1), (None, None, SEAT)),
                         ((-5, 4), (0, (-5, 4), SEAT)), ((-5, 4), (0, (-2, 0, 1), SEAT)),
                         ((-2, 0, 1), (0, (-5, 4), SEAT)), ((-1, 1), (3, None, SEAT)), ((5, -4), (-2, None, SEAT))):
            self.assertIs(sign_paper_holds(f, ROOT, wrong), False, (f, wrong))
        for value in ANY_VALUES:
            self.assertIs(sign_paper_holds((1, 1), ROOT, value), False)
            self.assertIs(sign_paper_holds((1, 1), ROOT, (1, None, value)), False)
            self.assertIs(sign_paper_holds((1, 1), ROOT, (1, value, SEAT)), value is None)
            self.assertIs(sign_paper_holds((1, 1), ROOT, (value, None, SEAT)), value == 1 and value is not True)

    def test_papers_of_all_signs(self):
        rng = source(45)
        for _ in range(250):
            place, zero = some_known_place(rng, 5)
            f = some_curve(rng, rng.randint(0, 4), rng.choice((3, 99)))
            if rng.random() < 0.4:
                f = times(f, some_known_place(rng, 4)[0][0])
            if rng.random() < 0.1:
                f = ()
            paper = self.assert_kept(sign_paper, f, place)
            self.assert_same(paper[0], known_sign(f, zero))
            self.assertIs(sign_paper_holds(f, place, paper), True)
            self.assertIs(seat_holds(place, paper[2]), True)
            for other in (-1, 0, 1):
                self.assertIs(sign_paper_holds(f, place, (other,) + paper[1:]), other == paper[0])
                self.assertIs(sign_paper_holds(f, place, (other, None, paper[2])), other == paper[0] != 0)
            if f and paper[0] != 0:
                self.assertIs(sign_paper_holds(f, place, (0, common_curve(f, place[0]), paper[2])), False)

    def test_soon_at_the_limits(self):
        rng = source(46)
        for number in (1, 2, 3):
            for f in ((-1, 10 ** 5), CLOSE, times(CLOSE, (-1, 1)), some_curve(rng, 8, 10 ** 12 - 1)):
                paper = self.assert_soon(2, sign_paper, f, (CLOSE, number))
                self.assertEqual(paper[0], place_sign(f, (CLOSE, number)))
                self.assertIs(self.assert_soon(2, sign_paper_holds, f, (CLOSE, number), paper), True)


if __name__ == "__main__":
    unittest.main()
