"""Promises [34], [37] and [38]: bands, and when sayings are true of them."""

import unittest

from curvebells.curves import curve_minus, curve_slope
from curvebells.errors import InvalidPlace, InvalidTurns, NoName
from curvebells.halls import Hall, followed_curves
from curvebells.places import is_moment, moments_of, place_moved, place_order, place_sign, ratio_against, ratio_place
from curvebells.ratios import ratio_by
from curvebells.rows import ring_row, tale_of
from curvebells.sayings import (
    Band, ever_holds, first_time, holds_at, labels_hold, labels_of, last_time, same_truth, truth_of,
)
from curvebells.spans import in_spans, is_spans, same_spans
from curvebells.stairs import Stair
from curvebells.tables import Table, inner_place, time_cell
from tests.helpers import ANY_VALUES, BellCase, picture, some_curve, source
from tests.test_halls import HALL, all_ways
from tests.test_rows import known_row
from tests.test_spans import holds_until

ALL = ((None, False, None, False),)
ONE, TWO = ((-1, 1), 1), ((-2, 1), 1)
EXAMPLE = Hall.read("thing cat\nway run 0 0 1\nbell ding at cat 1 any\nbell dong at cat 2 any")
CALM = Stair([("rings", "dong"), ("not", 0), ("rings", "ding"), ("since", 1, 2)])
TURNER = Hall.read("thing cat\nway run 0 1\nway back 10 -1\nway leap 20 1\nthing dog\nway sit 3\n"
                   "bell meet meet cat dog any\nbell up at cat 5 up\nbell down at cat 5 down")


def ways_at(band, place):
    """The ways followed at a moment."""
    ways = band.hall.first
    for moment, behind in band.turns:
        if place_order(moment, place) < 0:
            ways = behind
    return ways


def known_band_row(band):
    """The row by the words of [34]."""
    row = []
    for ways in {ways: True for ways in [band.hall.first] + [ways for _, ways in band.turns]}:
        row += [pair for pair in known_row(band.hall, ways) if ways_at(band, pair[0]) == ways]
    moments = Table([], [moment for moment, _ in row]).moments
    return tuple(next(pair for pair in row if place_order(pair[0], moment) == 0) for moment in moments)


def side(band, ways, told):
    names = [name for name, _ in band.hall.things]
    if isinstance(told, str):
        return followed_curves(band.hall, ways)[names.index(told)]
    return (told,) if told else ()


def atom_curve(band, ways, row):
    if row[0] == "above":
        return curve_minus(side(band, ways, row[1]), side(band, ways, row[2]))
    slope = curve_slope(side(band, ways, row[1]))
    return slope if row[0] == "rises" else curve_minus((), slope)


def known_truths(band, stair):
    """A table of many moments, and for each row of a stair its truths by cells, by the words of [34]."""
    everywhere = [band.hall.first] + [ways for _, ways in band.turns]
    curves = [atom_curve(band, ways, row) for row in stair.rows for ways in everywhere
              if row[0] in ("above", "rises", "falls")]
    marks = [moment for moment, _ in band.turns + band.row]
    for row in stair.rows:
        if row[0] in ("soon", "lately"):
            marks += [moment for curve in curves if curve for moment in moments_of(curve)]
            marks = list(Table([], marks).moments)
            moved = [place_moved(mark, row[2] if row[0] == "lately" else -row[2]) for mark in marks]
            marks += [mark for mark in moved if ratio_against(mark, (0, 1)) > 0]
    table = Table(curves, marks)
    places = [inner_place(table, cell) for cell in range(len(table))]
    truths = []
    for row in stair.rows:
        truths.append([known_truth(band, row, table, places, cell, truths) for cell in range(len(table))])
    return places, truths


def known_truth(band, row, table, places, cell, truths):
    word, place = row[0], places[cell]
    if word == "rings":
        return any(row[1] in lot and place_order(moment, place) == 0 for moment, lot in band.row)
    if word in ("above", "rises", "falls"):
        return place_sign(atom_curve(band, ways_at(band, place), row), place) > 0
    one, last = truths[row[1]], len(table) - 1
    if word == "not":
        return not one[cell]
    if word == "soon":
        end = time_cell(table, place_moved(place, row[2]))
        return any(one[cell + cell % 2:end + 1 - end % 2])
    if word == "lately":
        begin = place_moved(place, -row[2])
        end = time_cell(table, begin) if is_moment(begin) else 0
        return any(one[end + end % 2:cell + 1 - cell % 2])
    other = truths[row[2]]
    if word == "and":
        return one[cell] and other[cell]
    if word == "or":
        return one[cell] or other[cell]
    if word == "until":
        return holds_until(one, other, cell)
    return holds_until(one[::-1], other[::-1], last - cell)


def some_band(rng, most_turns=2):
    things = []
    for name in ("cat", "dog")[:rng.randint(1, 2)]:
        things.append((name, tuple((way, some_curve(rng, rng.randint(0, 2), 5)) for way in ("u", "v")[:rng.randint(1, 2)])))
    bells = [("ding", "at", ("cat", rng.randint(-4, 4)), rng.choice(["any", "up"])),
             ("dong", "still", ("cat",), rng.choice(["any", "down", "touch"]))]
    if len(things) > 1:
        bells.append(("dung", rng.choice(["meet"]), ("cat", "dog"), "any"))
    hall = Hall(things, bells)
    pool = [((-1, 2), 1), ONE, ((-2, 0, 1), 2), TWO, ((-1, -1, 1), 2)] + [moment for moment, _ in ring_row(hall, hall.first)]
    moments = Table([], rng.sample(pool, rng.randint(0, most_turns))).moments
    return Band(hall, [(moment, rng.choice(all_ways(hall))) for moment in moments])


def some_stair(rng, band, many, timed):
    names = [name for name, _ in band.hall.things]
    rows = []
    while len(rows) < many:
        chance = rng.random()
        if len(rows) < 2 or chance < 0.3:
            atoms = [("above", names[0], rng.randint(-4, 4)), ("above", rng.randint(-4, 4), names[-1]),
                     ("rises", rng.choice(names)), ("falls", rng.choice(names)),
                     ("rings", rng.choice(band.hall.bells)[0])]
            if len(names) > 1:
                atoms.append(("above", *rng.sample(names, 2)))
            rows.append(rng.choice(atoms))
        elif chance < 0.45:
            rows.append(("not", rng.randrange(len(rows))))
        elif timed and chance < 0.6:
            rows.append((rng.choice(["soon", "lately"]), rng.randrange(len(rows)), rng.randint(1, 3)))
            timed -= 1
        else:
            word = rng.choice(["and", "or", "until", "since", "until", "since"])
            rows.append((word, *rng.sample(range(len(rows)), 2)))
    return Stair(rows)


class TestBand(BellCase):

    def test_without_turns(self):
        band = Band(EXAMPLE)
        self.assertIs(band.hall, EXAMPLE)
        self.assert_same(band.turns, ())
        self.assert_same(band.row, ring_row(EXAMPLE, (0,)))
        self.assert_same(band.tale, (("ding",), ("dong",)))

    def test_by_hand(self):
        # Up to 4 and at it the cat runs: it is at 3 at 3; then it comes back from 6.
        turns = [(((-4, 1), 1), (1, 0))]
        band = Band(TURNER, turns)
        self.assert_same(band.turns, tuple(turns))
        self.assert_same(band.row, ((((-3, 1), 1), ("meet",)), (((-5, 1), 1), ("down",)), (((-7, 1), 1), ("meet",))))
        self.assert_same(band.tale, (("meet",), ("down",), ("meet",)))
        turns.append(None)
        self.assertEqual(len(band.turns), 1)
        self.assert_same(Band(turns=(), hall=TURNER).tale, (("meet",), ("up",)))

    def test_a_turn_at_a_ring(self):
        # At 5 the cat is at 5 by either way, but it is the way ahead that counts, on both sides.
        for ways, wanted in (((1, 0), (("meet",), ("up",), ("meet",))), ((2, 0), (("meet",), ("up",)))):
            self.assert_same(Band(TURNER, [(((-5, 1), 1), ways)]).tale, wanted)
        # A leap from 3 to 23 passes 5 without a ring, and what the new way has at the moment does not ring.
        self.assert_same(Band(TURNER, [(((-3, 1), 1), (2, 0))]).tale, (("meet",),))
        self.assert_same(Band(TURNER, [(((-7, 1), 1), (1, 0))]).tale, (("meet",), ("up",)))
        self.assert_same(Band(TURNER, [(ONE, (1, 0)), (((-7, 1), 1), (0, 0))]).tale, (("down",), ("meet",)))

    def test_by_the_words(self):
        rng = source(130)
        for _ in range(60):
            band = some_band(rng, 3)
            self.assert_same(band.row, known_band_row(band))
            self.assert_same(band.tale, tale_of(band.row))

    def test_wrong_turns(self):
        for value in ANY_VALUES:
            if not isinstance(value, (list, tuple)):
                self.assert_error(InvalidTurns, {"at": -1}, Band, HALL, value)
            elif value:
                self.assert_error(InvalidTurns, {"at": 0}, Band, HALL, value)
            self.assert_error(InvalidTurns, {"at": 1}, Band, HALL, [(ONE, (0, 0, 0)), value, None])
            self.assert_error(InvalidTurns, {"at": 0}, Band, HALL, [(ONE, value)])
            if value not in (ONE, ((-2, 0, 1), 2)):
                self.assert_error(InvalidTurns, {"at": 0}, Band, HALL, [(value, (0, 0, 0))])
        good = (TWO, (0, 0, 0))
        for wrong in (list(good), (TWO, (0, 0, 0), 1), (TWO,), (TWO, (0, 0)), (TWO, [0, 0, 0]), (TWO, (2, 0, 0)),
                      (((-4, 0, 1), 2), (1, 0, 0)), (ONE, (0, 0, 0)), (((0, 1), 1), (0, 0, 0)), good):
            self.assert_error(InvalidTurns, {"at": 1}, Band, HALL, (good, wrong, None))


class TestTruth(BellCase):

    def test_example(self):
        band = Band(EXAMPLE)
        for one, wanted in (((1, 1), False), ((7, 5), True), ((3, 2), False)):
            self.assert_same(holds_at(band, CALM, ratio_place(one)), wanted)
        self.assert_same(first_time(band, CALM)[1], False)
        self.assertEqual(place_order(first_time(band, CALM)[0], ONE), 0)
        self.assert_same(last_time(band, CALM)[1], True)
        self.assertEqual(place_order(last_time(band, CALM)[0], ((-2, 0, 1), 2)), 0)

    def spans(self, band, rows, wanted):
        told = truth_of(band, Stair(rows))
        self.assertIs(is_spans(told), True)
        self.assertEqual(len(told), len(wanted))
        self.assert_same(same_spans(told, wanted), True)

    def test_atoms(self):
        band = Band(TURNER, [(((-4, 1), 1), (1, 0))])
        three, four, seven = ((-3, 1), 1), ((-4, 1), 1), ((-7, 1), 1)
        self.spans(band, [("above", "cat", "dog")], ((three, False, seven, False),))
        self.spans(band, [("above", "dog", "cat")], ((None, False, three, False), (seven, False, None, False)))
        self.spans(band, [("above", "cat", 4)], ((four, False, ((-6, 1), 1), False),))
        self.spans(band, [("above", 4, "cat")], ((None, False, four, False), (((-6, 1), 1), False, None, False)))
        self.spans(band, [("rises", "cat")], ((None, False, four, True),))
        self.spans(band, [("falls", "cat")], ((four, False, None, False),))
        self.spans(band, [("rises", "dog")], ())
        self.spans(band, [("falls", "dog")], ())
        self.spans(band, [("above", 4, "dog")], ALL)
        self.spans(band, [("rings", "meet")], ((three, True, three, True), (seven, True, seven, True)))
        self.spans(band, [("rings", "up")], ())

    def test_and_or(self):
        band = Band(EXAMPLE)
        root = ((-2, 0, 1), 2)
        rows = [("above", "cat", 1), ("above", 2, "cat")]
        self.spans(band, rows + [("and", 0, 1)], ((ONE, False, root, False),))
        self.spans(band, rows + [("and", 1, 0)], ((ONE, False, root, False),))
        rows = [("above", 1, "cat"), ("above", "cat", 2)]
        self.spans(band, rows + [("or", 0, 1)], ((None, False, ONE, False), (root, False, None, False)))
        self.spans(band, rows + [("or", 1, 0)], ((None, False, ONE, False), (root, False, None, False)))
        self.spans(band, rows + [("and", 0, 1)], ())

    def test_the_time_nought_and_no_end(self):
        band = Band(EXAMPLE)
        self.spans(band, [("above", "cat", 0)], ALL)
        self.assert_same(first_time(band, Stair([("above", "cat", 0)])), (None, False))
        self.assert_same(last_time(band, Stair([("above", "cat", 0)])), (None, False))
        never = Stair([("above", 0, "cat")])
        self.assertIsNone(first_time(band, never))
        self.assertIsNone(last_time(band, stair=never))
        self.spans(band, [("above", 0, "cat"), ("not", 0), ("until", 1, 1)], ALL)
        self.spans(band, [("above", "cat", 0), ("since", 0, 0)], ALL)
        self.spans(band, [("rings", "ding"), ("lately", 0, 9)], ((ONE, False, ((-10, 1), 1), False),))
        self.spans(band, [("rings", "ding"), ("soon", 0, 1)], ((None, False, ONE, False),))
        self.spans(band, [("rings", "ding"), ("soon", 0, 1), ("rings", "ding")], ((ONE, True, ONE, True),))

    def test_by_the_words(self):
        rng = source(131)
        for _ in range(150):
            band = some_band(rng)
            stair = some_stair(rng, band, rng.randint(1, 9), 1)
            self.check_truths(band, stair)

    def test_soon_of_soon(self):
        rng = source(132)
        for _ in range(20):
            band = some_band(rng, 1)
            stair = some_stair(rng, band, 7, 2)
            self.check_truths(band, stair)

    def check_truths(self, band, stair):
        places, truths = known_truths(band, stair)
        told = self.assert_kept(truth_of, band, stair)
        self.assertIs(is_spans(told), True)
        for place, wanted in zip(places, truths[-1]):
            self.assert_same(in_spans(told, place), wanted)
        for cell in range(0, len(places), 5):
            self.assert_same(holds_at(band, stair, places[cell]), truths[-1][cell])
        first, last = first_time(band, stair), last_time(band, stair)
        self.assert_same((first, last), (told[0][:2], told[-1][2:]) if told else (None, None))
        self.check_labels(band, stair, places, truths)

    def check_labels(self, band, stair, places, truths):
        labels = self.assert_kept(labels_of, band, stair)
        self.assert_same(labels_hold(band, stair, labels), True)
        table = Table([], labels[0])
        self.assert_same(table.moments, labels[0])
        for place, cell in ((place, time_cell(table, place)) for place in places):
            self.assert_same([row[cell] for row in labels[1]], [row[places.index(place)] for row in truths])
        holds, told = ever_holds(band, stair)
        self.assert_same(holds, True in truths[-1])
        if holds:
            self.assert_same(holds_at(band, stair, told), True)
        else:
            self.assert_same(labels_hold(band, stair, told), True)
            self.assertNotIn(True, told[1][-1])

    def test_same_truth(self):
        band = Band(EXAMPLE)
        twice = Stair([("rings", "dong"), ("not", 0), ("not", 1), ("not", 2), ("rings", "ding"), ("since", 3, 4)])
        self.assertIsNone(same_truth(band, CALM, twice))
        self.assertIsNone(same_truth(band=band, one=twice, other=twice))
        for one, other in ((CALM, Stair([("above", "cat", 1)])), (Stair([("above", "cat", 0)]), CALM),
                           (Stair([("rings", "ding")]), Stair([("rings", "dong")]))):
            moment = same_truth(band, one, other)
            self.assertIs(is_moment(moment), True)
            self.assertNotEqual(holds_at(band, one, moment), holds_at(band, other, moment))
        rng = source(133)
        for _ in range(30):
            band = some_band(rng)
            one, other = some_stair(rng, band, 4, 0), some_stair(rng, band, 5, 1)
            moment = same_truth(band, one, other)
            self.assertEqual(moment is None, same_spans(truth_of(band, one), truth_of(band, other)))
            if moment is not None:
                self.assertNotEqual(holds_at(band, one, moment), holds_at(band, other, moment))

    def test_lacking_names(self):
        band = Band(TURNER)
        one = Stair([("rings", "owl"), ("rings", "ant"), ("rises", "pig"), ("above", "ox", "cat"), ("rings", "meet")])
        other = Stair([("rises", "bee")])
        calls = (truth_of, first_time, last_time, labels_of, ever_holds, lambda b, s: holds_at(b, s, None),
                 lambda b, s: labels_hold(b, s, None), lambda b, s: same_truth(b, s, other),
                 lambda b, s: same_truth(b, CAT, s))
        for call in calls:
            self.assert_error(NoName, {"name": "ox"}, call, band, one)
            self.assert_error(NoName, {"name": "ant"}, call, band, Stair(one.rows[:2]))
            # A bell's name is no thing's.
            self.assert_error(NoName, {"name": "meet"}, call, band, Stair([("rises", "meet")]))
            self.assert_error(NoName, {"name": "cat"}, call, band, Stair([("rings", "cat")]))
        self.assert_error(NoName, {"name": "bee"}, same_truth, band, CAT, other)

    def test_no_time(self):
        for value in ANY_VALUES:
            if value not in (ONE, ((-2, 0, 1), 2)):
                self.assert_error(InvalidPlace, {"at": 0}, holds_at, Band(EXAMPLE), CALM, value)
        for value in (((0, 1), 1), ((-2, 0, 1), 1), (1, 1), [(-1, 1), 1], ((-1, 1), True)):
            self.assert_error(InvalidPlace, {"at": 0}, holds_at, Band(EXAMPLE), CALM, value)


CAT = Stair([("rises", "cat")])


class TestLabels(BellCase):

    def setUp(self):
        self.band = Band(EXAMPLE)
        root = ((-2, 0, 1), 2)
        self.labels = ((ONE, root), ((False, False, False, True, False), (True, True, True, False, True),
                                     (False, True, False, False, False), (False, False, True, True, False)))

    def test_right(self):
        self.assert_same(labels_hold(self.band, CALM, self.labels), True)
        places, rows = self.labels
        alike = (((-1, 0, 1), 2), ((0, -2, 0, 1), 3))
        self.assert_same(labels_hold(band=self.band, stair=CALM, value=(alike, rows)), True)
        more = (ONE, ((-7, 5), 1), places[1], ((-9, 1), 1))
        wider = tuple(row[:3] + (row[2],) * 2 + row[3:] + (row[4],) * 2 for row in rows)
        self.assert_same(labels_hold(self.band, CALM, (more, wider)), True)
        self.assert_same(labels_hold(self.band, CALM, (more[:-1], wider)), False)
        self.assert_same(labels_hold(self.band, Stair([("above", "cat", 0)]), ((), ((True,),))), True)
        self.assert_same(labels_hold(self.band, Stair([("above", "cat", 0)]), ((), ((False,),))), False)

    def test_moments_ascend(self):
        always = Stair([("above", "cat", 0)])
        for places, wanted in (((ONE, TWO), True), ((TWO, ONE), False), ((ONE, ONE), False), ((ONE, ((0, -1, 1), 2)), False),
                               ((ONE, TWO, TWO), False), ((((-1, 2), 1), TWO, ONE), False)):
            rows = ((True,) * (2 * len(places) + 1),)
            self.assert_same(labels_hold(self.band, always, (places, rows)), wanted)

    def test_wrong(self):
        places, rows = self.labels
        for at in range(4):
            for cell in range(5):
                row = rows[at][:cell] + (not rows[at][cell],) + rows[at][cell + 1:]
                self.assert_same(labels_hold(self.band, CALM, (places, rows[:at] + (row,) + rows[at + 1:])), False)
        ints = tuple(tuple(int(one) for one in row) for row in rows)
        for value in (None, list(self.labels), (list(places), rows), (places, list(rows)), (places, rows, 1), (places,),
                      (places, rows[:3]), (places, rows + rows[:1]), (places, ints), (places[::-1], rows),
                      (places, ((0,) + rows[0][1:],) + rows[1:]), (places, rows[:3] + (rows[3][:3] + (1, False),)),
                      (places[:1], tuple(row[:3] for row in rows)), (places[:1], rows), ((ONE, ONE), rows),
                      ((ONE, ((0, -1, 1), 2)), rows), ((((0, 1), 1), ONE), rows), ((ONE, TWO), rows),
                      ((None, None), rows), (places, (list(rows[0]),) + rows[1:]), (places, (rows[0], None) + rows[2:]),
                      ((((-1, 2), 1), places[1]), rows), (((), ()), rows), ((), rows), (places, ())):
            self.assert_same(labels_hold(self.band, CALM, value), False)
        for value in ANY_VALUES:
            self.assert_same(labels_hold(self.band, CALM, value), False)

    def test_changed_labels_do_not_hold(self):
        rng = source(134)
        for _ in range(25):
            band = some_band(rng)
            stair = some_stair(rng, band, 5, 1)
            places, rows = labels_of(band, stair)
            at, cell = rng.randrange(5), rng.randrange(2 * len(places) + 1)
            row = rows[at][:cell] + (not rows[at][cell],) + rows[at][cell + 1:]
            self.assert_same(labels_hold(band, stair, (places, rows[:at] + (row,) + rows[at + 1:])), False)
            if places:
                drop = rng.randrange(len(places))
                fewer = tuple(row[:2 * drop] + row[2 * drop + 2:] for row in rows)
                self.assert_same(labels_hold(band, stair, (places[:drop] + places[drop + 1:], fewer)), False)


class TestGreatest(BellCase):

    def test_limits(self):
        rng = source(135)
        things = [(name, tuple((way, tuple(rng.randint(-99, 99) for _ in range(3)) + (rng.randint(1, 99),))
                               for way in "uv")) for name in ("a", "b", "c")]
        bells = [("k", "near", ("a", "b", 9), "any"), ("l", "mid", ("a", "b", "c"), "any"),
                 ("m", "near", ("b", "c", 99), "any"), ("n", "near", ("a", "c", 50), "any")]
        hall = Hall(things, bells)
        turns = [(((-at, 1), 1), ways) for at, ways in ((1, (1, 0, 1)), (2, (0, 1, 1)), (3, (1, 1, 0)))]
        stair = Stair([("above", "a", "b"), ("rings", "k"), ("rises", "b"), ("above", "c", 5), ("or", 1, 2),
                       ("until", 0, 4), ("since", 4, 3), ("soon", 5, 9), ("lately", 7, 9), ("or", 6, 8), ("until", 9, 1)])
        for told in ((), turns):
            band = self.assert_soon(3, Band, hall, told)
            for call in (truth_of, labels_of, ever_holds, first_time):
                self.assert_soon(3, call, band, stair)
            labels = labels_of(band, stair)
            self.assert_same(self.assert_soon(3, labels_hold, band, stair, labels), True)
            self.assert_soon(3, same_truth, band, Stair(stair.rows[:8]), Stair(stair.rows[:8]))

    def test_many_turns(self):
        turns = [(ratio_place(ratio_by(at, 7)), (at % 3, 0)) for at in range(1, 60)]
        band = self.assert_soon(3, Band, TURNER, turns)
        self.assert_same(band.row, known_band_row(band))
        self.assert_soon(3, truth_of, band, Stair([("rings", "meet"), ("above", "cat", "dog"), ("until", 1, 0)]))

    def test_kept(self):
        before = picture(TURNER)
        Band(TURNER, [(ONE, (1, 0))])
        self.assertEqual(picture(TURNER), before)


if __name__ == "__main__":
    unittest.main()
