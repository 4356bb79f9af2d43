"""Promise [92]: halls that are made to ring a tale, with a thing for each bell or by one curve through heights."""

import itertools
import unittest

from curvebells.errors import InvalidHeard, InvalidSize, Refused
from curvebells.halls import Hall
from curvebells.made import heights_degree, heights_fault, heights_hall, heights_order, heights_turns, own_hall
from curvebells.places import place_order
from curvebells.rows import bell_signs, ring_row, tale_of
from tests.helpers import BellCase, picture, source
from tests.test_alike import ONE, OTHER, WRONG

ALL = (heights_fault, heights_order, heights_turns, heights_degree, heights_hall)


def tale(text):
    return tuple(tuple(lot) for lot in text.split())


def known_neighbours(lots):
    beside = {lot[0]: set() for lot in lots}
    for one, other in zip(lots, lots[1:]):
        if one != other:
            beside[one[0]].add(other[0])
            beside[other[0]].add(one[0])
    return {name: sorted(beside[name]) for name in sorted(beside)}


def known_fault(lots):
    """By the words of [92]."""
    for at, lot in enumerate(lots):
        if len(lot) > 1:
            return ("lot", at)
    beside = known_neighbours(lots)
    for name in beside:
        if len(beside[name]) > 2:
            return ("three", name, tuple(beside[name]))
    if beside and all(len(own) == 2 for own in beside.values()):
        told = [min(beside), beside[min(beside)][0]]
        while len(told) < len(beside):
            told += [name for name in beside[told[-1]] if name not in told]
        return ("ring", tuple(told))
    if lots and len(beside[lots[-1][0]]) == 2:
        return ("end", lots[-1][0])
    return None


def known_orders(lots):
    """All rows of the names in which neighbours stand side by side."""
    beside = known_neighbours(lots)
    found = []
    for order in itertools.permutations(beside):
        if all(abs(order.index(one) - order.index(other)) == 1 for one in beside for other in beside[one]):
            found.append(order)
    return found


def fewest_turns(lots, order):
    """The fewest turns, and all rows of modes with so many, from all sides on which the curve may be."""
    levels = [order.index(lot[0]) for lot in lots]
    best, rows = None, []
    # Sides: ahead of all, between neighbouring lots (of which height, below or above it), behind all.
    for sides in itertools.product((-1, 1), repeat=len(lots) + 1):
        if len(order) > 1 and sides[-1] != (1 if levels[-1] == len(order) - 1 else -1):
            continue
        modes, turns, fits = [], 0, True
        come = sides[0]
        for at, level in enumerate(levels):
            go = sides[at + 1]
            if at + 1 < len(levels) and levels[at + 1] != level:
                fits = fits and go == (1 if levels[at + 1] > level else -1)
            modes.append("touch" if come == go else "up" if go == 1 else "down")
            turns += come == go
            come = go if at + 1 < len(levels) and levels[at + 1] == level else -go
            turns += at + 1 < len(levels) and levels[at + 1] == level
        if fits and (best is None or turns <= best):
            rows = [tuple(modes)] + (rows if turns == best else [])
            best = turns
    return best, rows


def some_walk(rng, names, most):
    """A tale of one name each, from neighbour to neighbour, that ends at an end."""
    at = rng.randrange(len(names))
    lots = [(names[at],)]
    while len(lots) < most or at not in (0, len(names) - 1):
        at = rng.choice([step for step in (at - 1, at, at + 1, at + 1) if 0 <= step < len(names)])
        lots.append((names[at],))
        if len(lots) > 12:
            return some_walk(rng, names, most)
    return tuple(lots)


class TestOwn(BellCase):

    def check_own(self, lots):
        hall = self.assert_kept(own_hall, lots)
        self.assertIsInstance(hall, Hall)
        self.assertTrue(all(word == "at" and mode == "any" for _, word, _, mode in hall.bells))
        self.assert_same(tale_of(ring_row(hall, hall.first)), lots)
        self.assert_same(Hall.read(hall.text()).text(), hall.text())

    def test_by_hand(self):
        for lots in ((), (("a",),), ONE, OTHER, (("a", "b"), ("b",), ("a", "c")), (("x",),) * 4, (("x", "y", "z"),) * 4):
            self.check_own(lots)
        self.assertEqual(len(own_hall(lots=()).things), 1)

    def test_any_tales(self):
        rng = source(500)
        for _ in range(40):
            names, lots, counts = "xyz", [], {}
            for _ in range(rng.randint(0, 9)):
                lot = tuple(name for name in names if rng.random() < 0.5 and counts.get(name, 0) < 4)
                for name in lot:
                    counts[name] = counts.get(name, 0) + 1
                lots += [lot] if lot else []
            self.check_own(tuple(lots))

    def test_refused(self):
        five = (("x",),) * 5
        self.assert_error(Refused, {"at": 4}, own_hall, five)
        self.assert_error(Refused, {"at": 5}, own_hall, (("y",),) + five * 2)
        self.assert_error(Refused, {"at": 6}, own_hall, (("x", "y"),) * 2 + (("y",), ("x",)) * 4)
        self.assert_error(Refused, {"at": 4}, own_hall, (("a", "b", "c", "d", "e"),) * 6)
        self.assert_error(Refused, {"at": 4}, own_hall, (("x",),) * 4 + (("w", "x", "y"),))
        for value in WRONG:
            self.assert_error(InvalidHeard, {"at": 0}, own_hall, value)

    def test_greatest(self):
        self.assert_soon(2, own_hall, (("x", "y", "z"),) * 3 + (("x",), ("y",), ("z",)))


class TestFaults(BellCase):

    def test_by_hand(self):
        for text, fault in (("", None), ("x", None), ("x x x", None), ("x y x", None), ("x y z", None), ("y x y z", None),
                            ("x y xy z", ("lot", 2)), ("xy x", ("lot", 0)), ("x y x z x w", ("three", "x", ("w", "y", "z"))),
                            ("b a c b", ("ring", ("a", "b", "c"))), ("c b a c", ("ring", ("a", "b", "c"))),
                            ("d a c b d", ("ring", ("a", "c", "b", "d"))), ("x y x z x", ("end", "x")), ("y x z x x", ("end", "x")),
                            ("a b c a d", ("three", "a", ("b", "c", "d"))), ("b a c b d", ("three", "b", ("a", "c", "d"))),
                            ("p q r p s t q", ("three", "p", ("q", "r", "s"))), ("x y z y", ("end", "y")),
                            ("x x y x x", None), ("x y y z", None)):
            self.assert_same(heights_fault(tale(text)), fault)
            self.assert_same(known_fault(tale(text)), fault)
            for call in ALL[1:] if fault else ():
                self.assert_error(Refused, {"at": fault}, call, tale(text))

    def test_by_the_words(self):
        for many in range(6):
            for names in itertools.product("wxyz", repeat=many):
                lots = tuple((name,) for name in names)
                self.assert_same(heights_fault(lots), known_fault(lots))
                if known_fault(lots) is not None:
                    self.assert_error(Refused, {"at": known_fault(lots)}, heights_order, lots)
        rng = source(501)
        for _ in range(100):
            lots = tuple(tuple(sorted(rng.sample("vwxyz", rng.choice([1, 1, 1, 2])))) for _ in range(rng.randint(0, 6)))
            self.assert_same(heights_fault(lots=lots), known_fault(lots))

    def test_wrong(self):
        for value in WRONG:
            for call in ALL:
                self.assert_error(InvalidHeard, {"at": 0}, call, value)


class TestHeights(BellCase):

    def test_example(self):
        self.assert_same((heights_turns(ONE), heights_turns(OTHER)), (("up", "touch", "down"), ("down", "up", "up")))
        self.assert_same(heights_fault(ONE + (("z",), ("x",))), ("end", "x"))
        hall = heights_hall(ONE)
        self.assert_same(tale_of(ring_row(hall, hall.first)), ONE)

    def test_by_hand(self):
        self.assert_same((heights_order(()), heights_turns(()), heights_degree(())), ((), (), 0))
        hall = heights_hall(lots=())
        self.assert_same((len(hall.things), hall.bells, len(hall.things[0][1])), (1, (), 1))
        self.assert_same(len(hall.things[0][1][0][1]), 1)
        self.assert_same((heights_order(tale("x")), heights_degree(tale("x"))), (("x",), 1))
        self.assertIn(heights_turns(tale("x")), (("up",), ("down",)))
        self.assert_same(heights_order(lots=tale("z y x")), ("x", "y", "z"))
        self.assert_same(heights_turns(lots=tale("z y x")), ("down", "down", "down"))
        self.assert_same(heights_degree(lots=tale("z y x")), 1)
        self.assert_same(heights_order(tale("b c a")), ("a", "c", "b"))
        self.assert_same(heights_turns(tale("b c a")), ("down", "down", "down"))
        # At y twice between x and z: one of both rings is a touch, and between them the curve turns.
        self.assertIn(heights_turns(tale("x y y z")), (("up", "touch", "up", "up"), ("up", "up", "touch", "up")))
        self.assert_same(heights_degree(tale("x y y z")), 3)

    def check_hall(self, lots):
        hall = self.assert_kept(heights_hall, lots)
        self.assertEqual((len(hall.things), len(hall.things[0][1])), (1, 1))
        self.assertTrue(all(word == "at" and mode == "any" for _, word, _, mode in hall.bells))
        heights = [told[1] for _, _, told, _ in hall.bells]
        self.assertEqual(len(set(heights)), len(heights))
        self.assert_same(tale_of(ring_row(hall, hall.first)), lots)
        self.assert_same(len(hall.things[0][1][0][1]) - 1, heights_degree(lots))
        # By the heights, the names stand in this order, or the other way about.
        named = [name for _, name in sorted(zip(heights, [bell[0] for bell in hall.bells]))]
        self.assertIn(heights_order(lots), (tuple(named), tuple(named[::-1])))
        return hall

    def check_turns(self, lots):
        order = heights_order(lots)
        self.assert_same(order, min(known_orders(lots)))
        best, rows = fewest_turns(lots, order)
        self.assertIn(heights_turns(lots), rows)
        self.assert_same(heights_degree(lots), best + 1)
        if best + 1 <= 4:
            self.check_hall(lots)
        else:
            self.assert_error(InvalidSize, {"word": "degree"}, heights_hall, lots)

    def test_short_tales(self):
        degrees = set()
        for many in range(1, 6):
            for names in itertools.product("xyz", repeat=many):
                lots = tuple((name,) for name in names)
                if known_fault(lots) is None:
                    self.check_turns(lots)
                    degrees.add(heights_degree(lots))
        self.assertEqual(degrees, {1, 2, 3, 4, 5})

    def test_long_tales(self):
        rng = source(502)
        degrees = {}
        for _ in range(60):
            names = "".join(rng.sample("vwxyz", rng.randint(1, 5)))
            lots = some_walk(rng, names, rng.randint(1, 9))
            if len(lots) <= 9 and known_fault(lots) is None:
                self.check_turns(lots)
                degrees[heights_degree(lots)] = degrees.get(heights_degree(lots), 0) + 1
        self.assertTrue(all(degrees.get(degree, 0) > 0 for degree in (1, 2, 3, 4, 5)), degrees)

    def test_turns_are_those_of_a_hall(self):
        # The modes of the hall's own rings, in the order of its heights.
        for text in ("x y x", "x x y", "x y y x", "y x x y z", "x y z z y", "a b c b c d", "z y x x y z"):
            lots = tale(text)
            if heights_fault(lots) is not None or heights_degree(lots) > 4:
                continue
            hall = self.check_hall(lots)
            signs = bell_signs(hall, hall.first)
            modes = []
            for cell, lot in zip(range(1, len(signs), 2), lots):
                at = [bell[0] for bell in hall.bells].index(lot[0])
                ahead, behind = signs[cell - 1][at], signs[cell + 1][at]
                modes.append("touch" if ahead == behind else "up" if behind > ahead else "down")
            self.assertEqual(modes.count("touch"), heights_turns(lots).count("touch"))

    def test_all_shapes_of_degree_four(self):
        # The first turn lower than the last one, higher, as high, at heights and between.
        shapes = ("b b c b a a b c d", "a a b c b b c d", "b b c b b c d", "b b c c b a b c d", "b c b a b c d", "b a b c b c d", "a b b a a b c", "c b b c b b c", "a a b a a b", "b b c b b c", "a b a b",
                  "b a a b a a b c", "b a b a b", "c b a b a b c d", "c b a a b a a b c d", "d c b b c b b c d")
        told = set()
        for text in shapes:
            lots = tale(text)
            if heights_fault(lots) is None and heights_degree(lots) == 4:
                self.check_hall(lots)
                told.add(text)
        self.assertGreater(len(told), 7)

    def test_greatest(self):
        for lots in (tale("a b c d e d c b a b c d e")[:9], tale("c b a b c d e d c b a")[:12], tale("e d c b a a b c d e d e")):
            if heights_fault(lots) is None and heights_degree(lots) <= 4:
                self.assert_soon(2, heights_hall, lots)
            self.assert_soon(2, heights_fault, lots)

    def test_first_ring_is_behind_the_beginning(self):
        for text in ("x y x", "x x", "y x y"):
            hall = self.check_hall(tale(text))
            row = ring_row(hall, hall.first)
            self.assertTrue(all(place_order(one[0], two[0]) < 0 for one, two in zip(row, row[1:])))

    def test_arguments_stay(self):
        before = picture(ONE)
        heights_hall(ONE)
        own_hall(ONE)
        self.assertEqual(picture(ONE), before)


if __name__ == "__main__":
    unittest.main()
