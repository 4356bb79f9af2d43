"""Promises [51] and [52]: wishes."""

import itertools
import unittest

from curvebells.errors import InvalidSize, InvalidWish
from curvebells.stairs import Stair
from curvebells.wishes import (
    Wish, least_wish, same_wish, wish_ahead, wish_both, wish_denied, wish_either, wish_last, wish_met, wish_rings,
)
from tests.helpers import ANY_VALUES, BellCase, source

BELLS = ("x", "y")


def lots_of(bells):
    """All lots of some names, ascending, not empty."""
    names = sorted(set(bells))
    return sorted(lot for many in range(1, len(names) + 1) for lot in itertools.combinations(names, many))


def tales_of(bells, longest):
    """All tales of these names, the shortest ones first."""
    for length in range(longest + 1):
        for tale in itertools.product(lots_of(bells), repeat=length):
            yield tale


def some_wish(rng, bells=BELLS):
    states = rng.randint(1, 5)
    steps = []
    for _ in range(rng.randint(0, 8)):
        need = [name for name in bells if rng.random() < 0.4]
        bar = [name for name in bells if rng.random() < 0.3]
        steps.append((rng.randrange(states), need, bar, rng.randrange(states)))
    return Wish(states, [state for state in range(states) if rng.random() < 0.4], steps)


def read_tale(wish, tale):
    """The state behind a tale, by the words of the promise."""
    state = 0
    for lot in tale:
        fitting = [step for step in wish.steps if step[0] == state and set(step[1]) <= set(lot)
                   and not set(step[2]) & set(lot)]
        state = fitting[0][3] if fitting else state
    return state


class TestWish(BellCase):

    def test_attributes(self):
        wish = Wish(3, [2, 0, 2], [[0, ["y", "x", "y"], [], 1], (1, (), ("b", "a"), 0)])
        self.assert_same(wish.states, 3)
        self.assert_same(wish.good, (0, 2))
        self.assert_same(wish.steps, ((0, ("x", "y"), (), 1), (1, (), ("a", "b"), 0)))
        empty = Wish(states=1, good=(), steps=[])
        self.assert_same((empty.states, empty.good, empty.steps), (1, (), ()))

    def test_longest_names(self):
        wish = Wish(1, (), [(0, ["abcdefgh"], ["z"], 0)])
        self.assert_same(wish.rung_bells(), ("abcdefgh", "z"))

    def test_equal(self):
        one = Wish(2, [1, 0], [[0, ["y", "x"], ["z"], 1]])
        self.assertTrue(one == Wish(2, (0, 1, 1), (((0, ("x", "y", "x"), ("z",), 1)),)))
        for other in (Wish(3, one.good, one.steps), Wish(2, (0,), one.steps), Wish(2, one.good, ()),
                      Wish(2, one.good, one.steps * 2)):
            self.assertFalse(one == other)
            self.assertTrue(one != other)
        for value in ((2, (0, 1), one.steps), None, 2, "wish", Stair([("rises", "a")])):
            self.assertFalse(one == value)

    def test_no_length_and_not_iterable(self):
        with self.assertRaises(TypeError):
            iter(Wish(1, (), ()))
        with self.assertRaises(TypeError):
            len(Wish(1, (), ()))

    def test_later_changes(self):
        good, need, bar = [1], ["x"], ["y"]
        step = [0, need, bar, 1]
        steps = [step]
        wish = Wish(2, good, steps)
        self.assertEqual((good, steps), ([1], [[0, ["x"], ["y"], 1]]))
        good.append(0)
        need.append("z")
        bar.clear()
        step[3] = 0
        steps.append([1, [], [], 0])
        self.assertEqual((wish.good, wish.steps), ((1,), ((0, ("x",), ("y",), 1),)))
        self.assertEqual(wish, Wish(2, [1], [(0, ("x",), ("y",), 1)]))

    def test_wrong_states(self):
        for states in (0, -1, True, None, "2", (2,), [], Stair([("rises", "a")])):
            self.assert_error(InvalidWish, {"at": "states"}, Wish, states, (), ())

    def test_wrong_good(self):
        for good in (None, 0, "0", True, [2], [-1], [0, True], ["0"], [None], [[0]], (0, 1, 2), ((),)):
            self.assert_error(InvalidWish, {"at": "good"}, Wish, 2, good, ())

    def test_wrong_steps(self):
        for steps in (None, 0, "", "abc", True, Wish(1, (), ())):
            self.assert_error(InvalidWish, {"at": "steps"}, Wish, 2, (), steps)

    def test_wrong_step(self):
        fine = (0, ("x",), ["y"], 1)
        for step in (None, 0, True, "0xy1", (), (0, (), ()), (0, (), (), 1, 1), (2, (), (), 1), (-1, (), (), 1),
                     (0, (), (), 2), (0, (), (), -1), (True, (), (), 1), (0, (), (), False), (0, "x", (), 1),
                     (0, (), "y", 1), (0, None, (), 1), (0, (), 3, 1), (0, (1,), (), 1), (0, ("X",), (), 1),
                     (0, ("",), (), 1), (0, ("abcdefghi",), (), 1), (0, (), (None,), 1), (0, (), (("y",),), 1),
                     (0, ["x", 3], (), 1), ("0", (), (), 1), (0, (), (), None), ([], (), (), 1)):
            self.assert_error(InvalidWish, {"at": 0}, Wish, 2, (), [step])
            self.assert_error(InvalidWish, {"at": 2}, Wish, 2, (), (fine, fine, step, 7))

    def test_first_what_is_listed_first(self):
        self.assert_error(InvalidWish, {"at": "states"}, Wish, 0, None, None)
        self.assert_error(InvalidWish, {"at": "good"}, Wish, 1, [1], None)
        self.assert_error(InvalidWish, {"at": "steps"}, Wish, 1, [0], "no")
        self.assert_error(InvalidWish, {"at": 1}, Wish, 1, [0], [(0, (), (), 0), (1, (), (), 0), 3])

    def test_any_value(self):
        for value in ANY_VALUES:
            if value.__class__ is not int or value < 1:
                self.assert_error(InvalidWish, {"at": "states"}, Wish, value, (), ())
            if not isinstance(value, (list, tuple)):
                self.assert_error(InvalidWish, {"at": "good"}, Wish, 1, value, ())
                self.assert_error(InvalidWish, {"at": "steps"}, Wish, 1, (), value)
            elif len(value) > 0:
                self.assert_error(InvalidWish, {"at": "good"}, Wish, 1, value, ())
                if value != ((0, ["a"], ["b"], 0),):
                    self.assert_error(InvalidWish, {"at": 0}, Wish, 1, (), value)

    def test_rung_bells(self):
        wish = Wish(2, (), [(0, ("y", "b"), ("x",), 1), (1, ("b",), ("a",), 1)])
        self.assert_same(wish.rung_bells(), ("a", "b", "x", "y"))
        self.assert_same(Wish(2, (0,), [(0, (), (), 1)]).rung_bells(), ())
        self.assert_same(Wish(2, (), ()).rung_bells(), ())

    def test_first_step_that_fits(self):
        wish = Wish(4, (3,), [(0, ("x", "y"), (), 1), (0, ("x",), ("z",), 2), (0, (), ("x",), 3), (1, (), (), 0)])
        self.assert_same(wish.after(0, ("x", "y", "z")), 1)
        self.assert_same(wish.after(0, ("x",)), 2)
        self.assert_same(wish.after(0, ("x", "z")), 0)
        self.assert_same(wish.after(state=0, lot=("q",)), 3)
        self.assert_same(wish.after(1, ("q",)), 0)
        self.assert_same(wish.after(2, ("x", "y")), 2)
        self.assert_same(wish.after(0, ["x", "y"]), 1)

    def test_end_and_takes(self):
        wish = Wish(3, (2,), [(0, ("x",), (), 1), (1, ("y",), (), 2), (2, ("x",), (), 0)])
        self.assert_same(wish.end(()), 0)
        self.assert_same(wish.end((), 2), 2)
        self.assert_same(wish.end((("x",), ("z",), ("y",))), 2)
        self.assert_same(wish.end(state=1, tale=[("y",), ("x",)]), 0)
        self.assertIs(wish.takes((("x",), ("y",))), True)
        self.assertIs(wish.takes(tale=(("x",),)), False)
        self.assertIs(wish.takes(()), False)
        self.assertIs(wish_denied(wish).takes([]), True)
        rng = source(1)
        for _ in range(60):
            one = some_wish(rng)
            for tale in tales_of(BELLS, 3):
                self.assertEqual(one.end(tale), read_tale(one, tale))
                self.assertIs(one.takes(tale), read_tale(one, tale) in one.good)


class TestMade(BellCase):

    def check(self, wish, test, bells=("x", "y", "z"), longest=3):
        self.assertIsInstance(wish, Wish)
        for tale in tales_of(bells, longest):
            self.assertIs(wish.takes(tale), bool(test(tale)), tale)

    def test_rings(self):
        for times in (1, 2, 3, 6):
            self.check(wish_rings("x", times), lambda tale: sum("x" in lot for lot in tale) >= times, BELLS, 4)
        self.check(wish_rings("x"), lambda tale: any("x" in lot for lot in tale))
        self.assertTrue(wish_rings(times=6, bell="x").takes((("x",),) * 6))
        self.assertFalse(wish_rings(times=6, bell="x").takes((("x",),) * 5))

    def test_wrong_times(self):
        for times in (0, -1, True, False, None, "1", (1,), [], Wish(1, (), ())):
            self.assert_error(InvalidSize, {"word": "times"}, wish_rings, "x", times)
        for value in ANY_VALUES:
            if value.__class__ is not int or value < 1:
                self.assert_error(InvalidSize, {"word": "times"}, wish_rings, bell="x", times=value)

    def test_ahead(self):
        def is_ahead(tale):
            return any("x" in lot and not any("y" in other for other in tale[:at + 1]) for at, lot in enumerate(tale))
        self.check(wish_ahead("x", "y"), is_ahead)
        self.check(wish_ahead(other="y", one="x"), is_ahead)
        self.check(wish_ahead("x", "x"), lambda tale: False)

    def test_last(self):
        self.check(wish_last("x"), lambda tale: tale and "x" in tale[-1])
        self.assertIs(wish_last(bell="x").takes(()), False)

    def test_denied_and_met(self):
        rng = source(2)
        for one in [some_wish(rng) for _ in range(60)] + [Wish(2, (0,), [(0, (), (), 1)]), Wish(1, (), ())]:
            self.check(wish_denied(one), lambda tale: not one.takes(tale), BELLS)
            self.check(wish_met(one), lambda tale: any(one.takes(tale[:n]) for n in range(len(tale) + 1)), BELLS)

    def test_both_and_either(self):
        rng = source(3)
        for _ in range(60):
            one, other = some_wish(rng), some_wish(rng)
            before = [(wish.states, wish.good, wish.steps) for wish in (one, other)]
            self.check(wish_both(one, other), lambda tale: one.takes(tale) and other.takes(tale), BELLS)
            self.check(wish_either(other=other, one=one), lambda tale: one.takes(tale) or other.takes(tale), BELLS)
            self.assertEqual(before, [(wish.states, wish.good, wish.steps) for wish in (one, other)])

    def test_wishes_of_wishes(self):
        wish = wish_rings("x", 2)
        for bell in ("y", "z", "x"):
            wish = wish_both(wish_either(wish, wish_last(bell)), wish_denied(wish_ahead(bell, "q")))
        self.assertEqual(wish_both(wish, wish).states, wish.states)
        self.assertTrue(same_wish(wish, wish_either(wish, wish), ("x", "y", "z", "q"))[0])


class TestSame(BellCase):

    def test_by_hand(self):
        self.assert_same(same_wish(wish_ahead("x", "y"), wish_rings("x"), ["x", "y"]), (False, (("x", "y"),)))
        self.assert_same(same_wish(wish_rings("x"), wish_rings("x", 1), ("x",)), (True, ((0, 0), (1, 1))))
        self.assert_same(same_wish(wish_ahead("x", "y"), wish_rings("x"), ["x"]), (True, ((0, 0), (1, 1))))
        self.assert_same(same_wish(other=wish_rings("x", 3), bells=["x"], one=wish_rings("x", 2)),
                         (False, (("x",), ("x",))))

    def test_no_bells(self):
        self.assert_same(same_wish(wish_rings("x"), wish_last("y"), []), (True, ((0, 0),)))
        self.assert_same(same_wish(wish_rings("x"), wish_denied(wish_last("y")), ()), (False, ()))

    def test_bells_twice_and_in_any_order(self):
        one, other = wish_ahead("x", "y"), wish_rings("x")
        self.assertEqual(same_wish(one, one, ["y", "x", "y"]), same_wish(one, one, ("x", "y")))
        self.assertEqual(same_wish(one, other, ["y", "x", "y"]), (False, (("x", "y"),)))

    def test_all_tales(self):
        rng = source(4)
        found = {True: 0, False: 0}
        for _ in range(150):
            one, other = some_wish(rng), some_wish(rng)
            if rng.random() < 0.3:
                other = wish_either(one, wish_both(one, other))
            told, value = same_wish(one, other, BELLS)
            found[told] += 1
            if told:
                pairs, open_pairs = {(0, 0)}, [(0, 0)]
                while open_pairs:
                    first, second = open_pairs.pop()
                    for lot in lots_of(BELLS):
                        pair = (one.after(first, lot), other.after(second, lot))
                        if pair not in pairs:
                            pairs.add(pair)
                            open_pairs.append(pair)
                self.assert_same(value, tuple(sorted(pairs)))
                self.assertTrue(all((a in one.good) == (b in other.good) for a, b in value))
            else:
                self.assertNotEqual(one.takes(value), other.takes(value))
                self.assertTrue(all(lot in lots_of(BELLS) for lot in value))
                for tale in tales_of(BELLS, min(len(value) - 1, 4)):
                    self.assertEqual(one.takes(tale), other.takes(tale))
        self.assertTrue(found[True] > 20 and found[False] > 20)


def met_order(wish, bells):
    """The states as they are met: state by state, lots ascending."""
    met = [0]
    for state in met:
        for lot in lots_of(bells):
            if wish.after(state, lot) not in met:
                met.append(wish.after(state, lot))
    return met


class TestLeast(BellCase):

    def test_by_hand(self):
        self.assert_same(least_wish(wish_rings("x"), ["x", "y"]).steps,
                         ((0, ("x",), ("y",), 1), (0, ("x", "y"), (), 1)))
        least = least_wish(wish=wish_ahead("x", "y"), bells=("y", "x", "x"))
        self.assert_same((least.states, least.good), (3, (1,)))
        self.assert_same(least.steps, ((0, ("x",), ("y",), 1), (0, ("x", "y"), (), 2), (0, ("y",), ("x",), 2)))
        self.assertEqual(least_wish(wish_rings("x", 6), ["y"]), Wish(1, (), ()))
        self.assertEqual(least_wish(wish_denied(wish_rings("x")), []), Wish(1, (0,), ()))

    def test_states_that_are_never_met(self):
        wish = Wish(4, (1, 3), [(0, ("x",), (), 1), (2, ("x",), (), 3), (3, (), (), 0)])
        self.assertEqual(least_wish(wish, ["x"]), Wish(2, (1,), [(0, ("x",), (), 1)]))

    def test_some_wishes(self):
        rng = source(5)
        for many in (1, 2, 3, 4):
            bells = ("x", "y", "b", "a")[:many]
            for _ in range(40):
                wish = some_wish(rng, bells)
                least = least_wish(wish, list(bells))
                self.assertTrue(same_wish(wish, least, bells)[0])
                self.check_order(least, bells)
                self.check_fewest(least, bells)
                self.assertEqual(least_wish(least, bells), least)

    def check_order(self, least, bells):
        """States are numbered as they are met, and steps are those that lead to another state."""
        self.assertEqual(met_order(least, bells), list(range(least.states)))
        wanted = []
        for state in range(least.states):
            for lot in lots_of(bells):
                if least.after(state, lot) != state:
                    bar = tuple(sorted(set(bells) - set(lot)))
                    wanted.append((state, lot, bar, least.after(state, lot)))
        self.assert_same(least.steps, tuple(wanted))

    def check_fewest(self, least, bells):
        """All states are met, and some tale tells each two of them apart."""
        for one, other in itertools.combinations(range(least.states), 2):
            pairs, open_pairs, apart = {(one, other)}, [(one, other)], False
            while open_pairs and not apart:
                first, second = open_pairs.pop()
                apart = (first in least.good) != (second in least.good)
                for lot in lots_of(bells):
                    pair = (least.after(first, lot), least.after(second, lot))
                    if pair not in pairs:
                        pairs.add(pair)
                        open_pairs.append(pair)
            self.assertTrue(apart)

    def test_equal_just_for_like_wishes(self):
        rng = source(6)
        for _ in range(100):
            one, other = some_wish(rng), some_wish(rng)
            self.assertEqual(least_wish(one, BELLS) == least_wish(other, BELLS), same_wish(one, other, BELLS)[0])
            self.assertEqual(least_wish(wish_both(one, other), BELLS), least_wish(wish_both(other, one), BELLS))
            self.assertEqual(least_wish(wish_denied(wish_either(one, other)), BELLS),
                             least_wish(wish_both(wish_denied(one), wish_denied(other)), BELLS))


if __name__ == "__main__":
    unittest.main()
