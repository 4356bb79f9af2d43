"""Promise [39]: kinds of times, and stairs that part two times."""

import unittest

from curvebells.errors import InvalidPlace, NoName
from curvebells.halls import Hall
from curvebells.parting import kinds_of_times, parting_stair
from curvebells.places import is_moment, place_order, ratio_place
from curvebells.ratios import ratio_by
from curvebells.sayings import Band, holds_at, truth_of
from curvebells.stairs import Stair, is_timeless, stair_depth
from curvebells.tables import Table, inner_place, time_cell
from tests.helpers import ANY_VALUES, BellCase, some_curve, source
from tests.test_halls import all_ways
from tests.test_sayings import CALM, EXAMPLE, ONE, TURNER, TWO, known_truths, some_band, some_stair

ATOMS = ("above", "rises", "falls", "rings")


def known_rounds(truths):
    """The rounds by the words of [39]: lists are made anew for each cell."""
    many = len(truths[0])

    def renamed(kinds):
        return tuple(list(dict.fromkeys(kinds)).index(kind) for kind in kinds)

    def met(numbers, cells):
        found = []
        for cell in cells:
            if numbers[cell] not in [number for number, _ in found]:
                found.append((numbers[cell], cell % 2 == 1))
        return found

    rounds = [renamed([tuple(row[cell] for row in truths) for cell in range(many)])]
    while True:
        last = rounds[-1]
        kinds = []
        for cell in range(many):
            on = [one for one in range(many) if one > cell or (one == cell and cell % 2 == 0)]
            back = [one for one in range(many) if one < cell or (one == cell and cell % 2 == 0)][::-1]
            kinds.append((last[cell], tuple(met(last, on)), tuple(met(last, back))))
        if renamed(kinds) == last:
            return tuple(rounds)
        rounds.append(renamed(kinds))


def bare_stair(stair):
    """The stair with its atoms alone."""
    return Stair([row for row in stair.rows if row[0] in ATOMS])


class TestKinds(BellCase):

    def test_by_hand(self):
        places, rounds = kinds_of_times(Band(EXAMPLE), CALM)
        self.assertEqual(len(places), 2)
        # Neither rings in three stretches; dong at one moment, ding at another one.
        self.assert_same(rounds, ((0, 1, 0, 2, 0), (0, 1, 2, 3, 4)))
        places, rounds = kinds_of_times(band=Band(EXAMPLE), stair=Stair([("above", "cat", 0), ("rises", "cat")]))
        self.assert_same((places, rounds), ((), ((0,),)))
        # At 2 the cat is not above 4, but all the time from then on: so it is at no time ahead.
        places, rounds = kinds_of_times(Band(EXAMPLE), Stair([("above", "cat", 4)]))
        self.assert_same(rounds, ((0, 0, 1), (0, 1, 2)))
        self.assertEqual(len(places), 1)

    def test_fewest_moments(self):
        # The cat turns at 1, 2 and 3, but rises all the time by its first and third way.
        band = Band(TURNER, [(ONE, (2, 0)), (TWO, (0, 0)), (((-3, 1), 1), (1, 0))])
        places, rounds = kinds_of_times(band, Stair([("rises", "cat")]))
        self.assertEqual(len(places), 1)
        self.assert_same(rounds, ((0, 0, 1), (0, 1, 2)))
        self.assert_same(kinds_of_times(band, Stair([("rises", "dog"), ("soon", 0, 1)])), ((), ((0,),)))

    def test_by_the_words(self):
        rng = source(150)
        for _ in range(60):
            band = some_band(rng)
            stair = bare_stair(some_stair(rng, band, rng.randint(1, 6), 1))
            places, rounds = self.assert_kept(kinds_of_times, band, stair)
            table = Table([], places)
            self.assertEqual(len(table), 2 * len(places) + 1)
            truths = [[holds_at(band, Stair([row]), inner_place(table, cell)) for cell in range(len(table))]
                      for row in stair.rows]
            # Each moment is needed, and no other one.
            for at in range(1, len(table), 2):
                self.assertTrue(any(len(set(row[at - 1:at + 2])) > 1 for row in truths))
            fine, told = known_truths(band, stair)
            for place, cell in ((place, time_cell(table, place)) for place in fine):
                self.assertEqual([row[fine.index(place)] for row in told], [row[cell] for row in truths])
            self.assert_same(rounds, known_rounds(truths))

    def test_alike_times_agree(self):
        rng = source(151)
        for _ in range(30):
            band = some_band(rng)
            bare = bare_stair(some_stair(rng, band, 3, 0))
            places, rounds = kinds_of_times(band, bare)
            table = Table([], places)
            many = len(bare.rows)
            for _ in range(6):
                rows = list(bare.rows)
                for _ in range(rng.randint(1, 6)):
                    word = rng.choice(["until", "since", "and", "or", "not"])
                    rows.append((word, *[rng.randrange(len(rows)) for _ in range(1 if word == "not" else 2)]))
                stair = Stair(rows)
                numbers = rounds[min(stair_depth(stair), len(rounds) - 1)]
                truths = {}
                for cell in range(len(table)):
                    truths.setdefault(numbers[cell], set()).add(holds_at(band, stair, inner_place(table, cell)))
                self.assertTrue(all(len(told) == 1 for told in truths.values()))
            self.assertEqual(many, len(bare.rows))


class TestParting(BellCase):

    def check(self, band, stair, one, other):
        places, rounds = kinds_of_times(band, stair)
        table = Table([], places)
        cells = [time_cell(table, place) for place in (one, other)]
        apart = [numbers[cells[0]] != numbers[cells[1]] for numbers in rounds]
        told = self.assert_kept(parting_stair, band, stair, one, other)
        if True not in apart:
            self.assertIsNone(told)
            return
        self.assertIsInstance(told, Stair)
        self.assertIs(is_timeless(told), True)
        self.assertEqual(stair_depth(told), apart.index(True))
        self.assertLessEqual({row for row in told.rows if row[0] in ATOMS}, set(stair.rows))
        self.assertIs(holds_at(band, told, one), True)
        self.assertIs(holds_at(band, told, other), False)

    def test_by_hand(self):
        band = Band(EXAMPLE)
        half, root, five = ((-1, 2), 1), ((-2, 0, 1), 2), ((-5, 1), 1)
        for one, other in ((half, ONE), (ONE, half), (ONE, root), (half, ((-7, 5), 1)), (((-7, 5), 1), half),
                           (half, five), (five, ((-7, 5), 1)), (((-6, 5), 1), ((-7, 5), 1)), (ONE, ONE)):
            self.check(band, CALM, one, other)
        self.assertIsNone(parting_stair(band, CALM, ((-6, 5), 1), ((-7, 5), 1)))
        self.assertEqual(stair_depth(parting_stair(band, CALM, ONE, root)), 0)
        self.assertEqual(stair_depth(parting_stair(band=band, stair=CALM, one=half, other=five)), 1)

    def test_at_a_moment_or_in_a_stretch(self):
        # Between 1 and 4 and between 5 and 6 the cat is above 5: first it comes to 5 at 4, then it leaps behind 6.
        hall = Hall.read("thing cat\nway low 0\nway fall 9 -1\nway high 7\nbell ding at cat 6 any")
        band = Band(hall, [(ONE, (1,)), (((-5, 1), 1), (2,)), (((-6, 1), 1), (0,))])
        stair = Stair([("above", "cat", 5)])
        places, rounds = kinds_of_times(band, stair)
        self.assertEqual([place_order(one, ((-at, 1), 1)) for one, at in zip(places, (1, 4, 5, 6))], [0] * 4)
        self.assert_same(rounds, ((0, 0, 1, 0, 0, 0, 1, 1, 0), (0, 1, 2, 3, 4, 5, 6, 7, 8)))
        cells = [inner_place(Table([], places), cell) for cell in range(9)]
        for one in cells:
            for other in cells:
                self.check(band, stair, one, other)
        self.assertEqual(stair_depth(parting_stair(band, stair, cells[2], cells[6])), 1)

    def test_by_the_words(self):
        rng = source(152)
        for _ in range(40):
            band = some_band(rng)
            stair = some_stair(rng, band, rng.randint(1, 6), 1)
            places = kinds_of_times(band, stair)[0]
            table = Table([], places)
            cells = [inner_place(table, cell) for cell in range(len(table))]
            for one in cells:
                for other in cells:
                    self.check(band, stair, one, other)

    def test_deeper(self):
        hall = Hall([("a", (("u", (0, 1)), ("v", (0, -1)), ("w", (3, 1))))],
                    [("x", "at", ("a", 2), "any"), ("y", "at", ("a", -3), "any"), ("z", "at", ("a", 9), "any")])
        rng = source(153)
        depths = set()
        for _ in range(4):
            turns = [(ratio_place(ratio_by(at, 2)), (rng.randrange(3),)) for at in range(1, 24)]
            band = Band(hall, turns)
            stair = Stair([("rises", "a"), ("rings", "x"), ("above", "a", 0)])
            places, rounds = kinds_of_times(band, stair)
            depths.add(len(rounds))
            table = Table([], places)
            for _ in range(12):
                one, other = rng.sample(range(len(table)), 2)
                self.check(band, stair, inner_place(table, one), inner_place(table, other))
        self.assertGreater(max(depths), 3)

    def test_wrong(self):
        band = Band(EXAMPLE)
        lacking = Stair([("rings", "owl"), ("rises", "pig"), ("rises", "ox")])
        self.assert_error(NoName, {"name": "ox"}, kinds_of_times, band, lacking)
        self.assert_error(NoName, {"name": "ox"}, parting_stair, band, lacking, None, None)
        self.assert_error(NoName, {"name": "owl"}, kinds_of_times, band, Stair(lacking.rows[:1]))
        for value in ANY_VALUES:
            if value not in (ONE, ((-2, 0, 1), 2)):
                self.assert_error(InvalidPlace, {"at": 0}, parting_stair, band, CALM, value, value)
                self.assert_error(InvalidPlace, {"at": 1}, parting_stair, band, CALM, ONE, value)
        for value in (((0, 1), 1), ((-2, 0, 1), 1), [(-1, 1), 1], (1, 1)):
            self.assertIs(is_moment(value), False)
            self.assert_error(InvalidPlace, {"at": 0}, parting_stair, band, CALM, value, None)
            self.assert_error(InvalidPlace, {"at": 1}, parting_stair, band, CALM, TWO, value)

    def test_greatest(self):
        rng = source(154)
        things = [(name, tuple((way, some_curve(rng, 3, 99)) for way in "uv")) for name in ("a", "b", "c")]
        bells = [("k", "near", ("a", "b", 9), "any"), ("l", "mid", ("a", "b", "c"), "any"),
                 ("m", "near", ("b", "c", 99), "any"), ("n", "near", ("a", "c", 50), "any")]
        hall = Hall(things, bells)
        turns = [(((-at, 1), 1), rng.choice(all_ways(hall))) for at in (1, 2, 3)]
        band = Band(hall, turns)
        stair = Stair([("above", "a", "b"), ("rings", "k"), ("rings", "n")])
        places, _ = self.assert_soon(3, kinds_of_times, band, stair)
        self.assertGreater(len(truth_of(band, Stair(stair.rows[:1]))), 0)
        table = Table([], places)
        for cell in range(0, len(table), 3):
            self.assert_soon(3, parting_stair, band, stair, inner_place(table, 0), inner_place(table, cell))


if __name__ == "__main__":
    unittest.main()
