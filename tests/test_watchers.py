"""Promises [80] to [83]: houses, watchers, what is sure, what is known of others."""

import itertools
import unittest

from curvebells.errors import InvalidHeard, InvalidSize, NoName
from curvebells.halls import Hall
from curvebells.places import is_moment, place_order, ratio_place
from curvebells.ratios import ratio_by
from curvebells.rows import thin_tale
from curvebells.sayings import Band, holds_at, truth_of
from curvebells.spans import in_spans, is_spans, spans_both, spans_without
from curvebells.stairs import Stair
from curvebells.watchers import (
    common_chain, common_points, doubt_of, everybody_knows, heard_at, heard_fits, house_points, is_always, known_levels,
    knows_points, never_known, point_time, sure_points, together_know, when_known,
)
from tests.helpers import ANY_VALUES, BellCase, picture, source

THINGS = [("a", (("w", (0, 1)),))]
EARLY = Band(Hall(THINGS, [("x", "at", ("a", 1), "any"), ("y", "at", ("a", 2), "any")]))
LATER = Band(Hall(THINGS, [("x", "at", ("a", 2), "any"), ("y", "at", ("a", 1), "any")]))
HOUSES, BOTH = (EARLY, LATER), ((0, 2), (1, 2))
ONE, TWO = ((-1, 1), 1), ((-2, 1), 1)
NEAR = Stair([("above", "a", 1)])


def some_houses(rng, most=4):
    """Houses of the bells x, y, z; some have the same tale, or a beginning of it."""
    houses = []
    for _ in range(rng.randint(1, most)):
        ways = [(0, 1), (4, -1), (3, -4, 1), (1, 0, 1), (0, 3, -1)]
        things = [(name, (("w", rng.choice(ways)), ("v", rng.choice(ways)))) for name in "ab"[:rng.randint(1, 2)]]
        bells = [(name, "at", (rng.choice(things)[0], rng.randint(0, 3)), "any") for name in "xyz"[:rng.choice([0, 2, 3, 3])]]
        turns = [(rng.choice([ONE, TWO]), tuple(rng.randint(0, 1) for _ in things))] if rng.random() < 0.3 else []
        houses.append(Band(Hall(things, bells), turns))
    return houses


def known_points(houses):
    return [(house, many) for house in range(len(houses)) for many in range(len(houses[house].tale) + 1)]


def heard(houses, watcher, point):
    return thin_tale(houses[point[0]].tale[:point[1]], watcher)


def some_watchers(rng):
    return [tuple(sorted(rng.sample("xyz", rng.randint(0, 3)))) for _ in range(rng.randint(1, 3))]


def some_of(rng, points, share=0.7):
    return tuple(point for point in points if rng.random() < share)


def some_said(rng, things, bells):
    """A stair of these names."""
    rows = [rng.choice([("above", rng.choice(things), rng.randint(0, 3)), ("rises", rng.choice(things))])]
    while len(rows) < rng.randint(2, 6):
        word = rng.choice(["rings", "not", "or", "and", "until", "since", "above"])
        if word == "above":
            rows.append(("above", rng.randint(-1, 3), rng.choice(things)))
        elif word == "rings":
            rows += [("rings", name) for name in bells[:1]]
        else:
            rows.append((word,) + tuple(rng.randrange(len(rows)) for _ in range(1 if word == "not" else 2)))
    return Stair(rows)


def likes(houses, watcher, points, point):
    return [one for one in points if heard(houses, watcher, one) == heard(houses, watcher, point)]


class TestHeard(BellCase):

    def test_points(self):
        self.assert_same(house_points(HOUSES), ((0, 0), (0, 1), (0, 2), (1, 0), (1, 1), (1, 2)))
        self.assert_same(house_points(houses=[Band(Hall(THINGS, ()))]), ((0, 0),))
        self.assert_same(house_points([LATER]), ((0, 0), (0, 1), (0, 2)))

    def test_times(self):
        self.assert_same(point_time(HOUSES, (0, 0)), (None, False, ONE, False))
        self.assert_same(point_time(houses=list(HOUSES), point=(1, 1)), (ONE, True, TWO, False))
        self.assert_same(point_time(HOUSES, (0, 2)), (TWO, True, None, False))
        self.assert_same(point_time([Band(Hall(THINGS, ()))], (0, 0)), (None, False, None, False))
        for value in ANY_VALUES + ((2, 0), (0, 3), (-1, 0), (0, -1), [0, 0], (0,), (0, 0, 0), (True, 0), (0, False), ("0", 0)):
            if not (isinstance(value, tuple) and value in ((1, 2), (0, 1), (0, 2), (1, 0)) and True not in [
                    isinstance(one, bool) for one in value]):
                self.assert_error(InvalidHeard, {"at": 0}, point_time, HOUSES, value)
                self.assert_error(InvalidHeard, {"at": 0}, heard_at, HOUSES, ("x",), value)
                self.assert_error(InvalidHeard, {"at": 0}, is_always, HOUSES, value, Stair([("rings", "owl")]))
                self.assert_error(InvalidHeard, {"at": 0}, common_chain, HOUSES, (("x",),), (), value)

    def test_heard(self):
        self.assert_same(heard_at(HOUSES, ("x",), (1, 1)), ())
        self.assert_same(heard_at(houses=HOUSES, watcher=("x", "y"), point=(1, 2)), (("y",), ("x",)))
        self.assert_same(heard_at(HOUSES, (), (1, 2)), ())
        self.assert_same(heard_at(HOUSES, ("owl",), (1, 2)), ())

    def test_fits(self):
        self.assert_same(heard_fits(HOUSES, ("x",), (("x",),)), ((0, 1), (0, 2), (1, 2)))
        self.assert_same(heard_fits(houses=HOUSES, watcher=("x", "y"), heard=[("y",)]), ((1, 1),))
        self.assert_same(heard_fits(HOUSES, (), []), house_points(HOUSES))
        self.assert_same(heard_fits(HOUSES, ("owl",), ()), house_points(HOUSES))

    def test_wrong_watchers(self):
        for value in ANY_VALUES + (("y", "x"), ("x", "x"), ["x"], "x", ("X",), ("x", 1), (("x",),)):
            if value in ((), ("a",)) and isinstance(value, tuple):
                continue
            self.assert_error(InvalidSize, {"word": "watcher"}, heard_at, HOUSES, value, None)
            self.assert_error(InvalidSize, {"word": "watcher"}, heard_fits, HOUSES, value, None)
            self.assert_error(InvalidSize, {"word": "watcher"}, doubt_of, HOUSES, value, None, Stair([("rings", "owl")]))
            self.assert_error(InvalidSize, {"word": "watcher"}, sure_points, HOUSES, value, Stair([("rings", "owl")]))
            self.assert_error(InvalidSize, {"word": "watcher"}, knows_points, HOUSES, value, None)
            self.assert_error(InvalidSize, {"word": "watcher"}, when_known, HOUSES, value)
            self.assert_error(InvalidSize, {"word": "watcher"}, never_known, HOUSES, value)
            for call in (everybody_knows, together_know, known_levels, common_points):
                self.assert_error(InvalidSize, {"word": "watchers"}, call, HOUSES, (("x",), value), None)
            self.assert_error(InvalidSize, {"word": "watchers"}, common_chain, HOUSES, [value], None, None)

    def test_wrong_heard(self):
        for value in ANY_VALUES:
            if not isinstance(value, (list, tuple)):
                self.assert_error(InvalidHeard, {"at": -1}, heard_fits, HOUSES, ("x", "y"), value)
                self.assert_error(InvalidHeard, {"at": -1}, doubt_of, HOUSES, ("x", "y"), value, Stair([("rings", "owl")]))
            elif value:
                self.assert_error(InvalidHeard, {"at": 0}, heard_fits, HOUSES, ("x", "y"), value)
            self.assert_error(InvalidHeard, {"at": 1}, heard_fits, HOUSES, ("x", "y"), [("x",), value, None])
            self.assert_error(InvalidHeard, {"at": 2}, heard_fits, HOUSES, ("x", "y"), (("x",), ("y",), value))
        for value, at in (([["x"]], 0), ([("x", "y")], 0), ([("x",), ("x",)], 1), ([("x",), ("y",), ("x",)], 2), ([()], 0)):
            self.assert_error(InvalidHeard, {"at": at}, heard_fits, HOUSES, ("x", "y"), value)
            self.assert_error(InvalidHeard, {"at": at}, doubt_of, HOUSES, ("x", "y"), value, NEAR)
        self.assert_error(InvalidHeard, {"at": 0}, heard_fits, HOUSES, (), [("x",)])

    def test_by_the_words(self):
        rng = source(440)
        for _ in range(30):
            houses = some_houses(rng)
            points = known_points(houses)
            self.assert_same(house_points(houses), tuple(points))
            watcher = some_watchers(rng)[0]
            for point in rng.sample(points, min(5, len(points))):
                row = houses[point[0]].row
                span = point_time(houses, point)
                self.assertTrue(is_spans((span,)))
                for time in [moment for moment, _ in row] + [ratio_place(ratio_by(n, 4)) for n in range(1, 40)]:
                    rung = len([moment for moment, _ in row if place_order(moment, time) <= 0])
                    self.assert_same(in_spans((span,), time), rung == point[1])
                told = heard(houses, watcher, point)
                self.assert_same(heard_at(houses, watcher, point), told)
                self.assert_same(heard_fits(houses, watcher, list(told)), tuple(likes(houses, watcher, points, point)))


class TestSure(BellCase):

    def test_by_hand(self):
        # The thing is above 1 strictly behind 1.
        self.assert_same(is_always(HOUSES, (0, 1), NEAR), False)
        self.assert_same(is_always(houses=HOUSES, point=(0, 2), stair=NEAR), True)
        self.assert_same(doubt_of(HOUSES, ("x",), (("x",),), NEAR), ((0, 1), ONE))
        self.assert_same(doubt_of(houses=HOUSES, watcher=("y",), heard=[("y",)], stair=NEAR), ((1, 1), ONE))
        self.assert_same(doubt_of(HOUSES, ("x", "y"), [("x",), ("y",)], NEAR), None)
        self.assert_same(sure_points(HOUSES, ("x", "y"), NEAR), ((0, 2), (1, 2)))
        self.assert_same(sure_points(houses=HOUSES, watcher=("x",), stair=NEAR), ())
        self.assert_same(sure_points([EARLY], ("y",), NEAR), ((0, 2),))
        self.assert_same(sure_points(HOUSES, (), Stair([("rises", "a")])), house_points(HOUSES))

    def test_wrong_names(self):
        other = Band(Hall([("b", (("w", (0, 1)),))], [("z", "at", ("b", 1), "any")]))
        houses = (EARLY, other)
        for rows, name in (([("rises", "b")], "b"), ([("rings", "x")], "x"), ([("rings", "y"), ("rises", "b")], "b"),
                           ([("rises", "a"), ("rings", "y")], "a")):
            self.assert_error(NoName, {"name": name}, doubt_of, houses, ("x",), (), Stair(rows))
            self.assert_error(NoName, {"name": name}, sure_points, houses, ("x",), Stair(rows))
        self.assert_same(is_always(houses, (0, 1), Stair([("rises", "a")])), True)
        self.assert_error(NoName, {"name": "a"}, is_always, houses, (1, 1), Stair([("rises", "a")]))
        self.assert_error(NoName, {"name": "x"}, is_always, houses, (1, 1), Stair([("rings", "x")]))
        self.assert_error(InvalidHeard, {"at": 0}, doubt_of, houses, ("x",), [("owl",)], Stair([("rises", "owl")]))

    def test_by_the_words(self):
        rng = source(441)
        told = {True: 0, False: 0}
        for _ in range(40):
            houses = some_houses(rng, 3)
            things = sorted(set.intersection(*[{name for name, _ in band.hall.things} for band in houses]))
            bells = sorted(set.intersection(*[{bell[0] for bell in band.hall.bells} for band in houses]))
            stair = some_said(rng, things, bells)
            points, watcher = known_points(houses), some_watchers(rng)[0]
            always = {}
            for point in points:
                time = (point_time(houses, point),)
                always[point] = not spans_both(time, spans_without(truth_of(houses[point[0]], stair)))
                self.assert_same(is_always(houses, point, stair), always[point])
            sure = [point for point in points if all(always[one] for one in likes(houses, watcher, points, point))]
            self.assert_same(sure_points(houses, watcher, stair), tuple(sure))
            for point in points:
                doubt = doubt_of(houses, watcher, heard(houses, watcher, point), stair)
                told[doubt is None] += 1
                self.assertEqual(doubt is None, point in sure)
                if doubt is not None:
                    first = [one for one in likes(houses, watcher, points, point) if not always[one]][0]
                    self.assert_same(doubt[0], first)
                    self.assertTrue(is_moment(doubt[1]))
                    self.assertTrue(in_spans((point_time(houses, first),), doubt[1]))
                    self.assert_same(holds_at(houses[first[0]], stair, doubt[1]), False)
            more = tuple(sorted(set(watcher) | {rng.choice("xyz")}))
            self.assertLessEqual(set(sure), set(sure_points(houses, more, stair)))
        self.assertGreater(min(told.values()), 30)


class TestKnowing(BellCase):

    def test_example(self):
        ears = (("x",), ("y",))
        self.assert_same(everybody_knows(HOUSES, ears, BOTH), ())
        self.assert_same(together_know(HOUSES, ears, BOTH), BOTH)
        self.assert_same(together_know(HOUSES, ears, ((0, 2),)), ())
        self.assert_same(knows_points(HOUSES, ("x", "y"), ((0, 2),)), ((0, 2),))

    def test_by_hand(self):
        wide = ((0, 1), (0, 2), (1, 1), (1, 2))
        self.assert_same(known_levels(HOUSES, (("x",), ("y",)), wide), (wide, ((0, 2), (1, 2)), ()))
        self.assert_same(common_chain(HOUSES, (("x",), ("y",)), wide, (0, 2)), ((0, (0, 1)), (1, (0, 0))))
        some = ((0, 1), (0, 2), (1, 2))
        self.assert_same(knows_points(houses=HOUSES, watcher=("x",), some=list(some)), some)
        self.assert_same(everybody_knows(houses=HOUSES, watchers=[("x",)], some=some), some)
        self.assert_same(known_levels(HOUSES, (("x",), ("y",)), some), (some, ()))
        self.assert_same(known_levels(houses=HOUSES, watchers=[("x",)], some=some), (some,))
        self.assert_same(common_points(HOUSES, (("x",), ("x", "y")), some), some)
        self.assert_same(common_points(houses=HOUSES, watchers=(("y",), ("x",)), some=some), ())
        self.assert_same(common_chain(HOUSES, (("x",),), some, (0, 1)), None)
        self.assert_same(common_chain(houses=HOUSES, watchers=(("x",), ("y",)), some=some, point=(0, 0)), ())
        self.assert_same(common_chain(HOUSES, (("x",), ("y",)), some, (0, 1)), ((1, (0, 0)),))
        self.assert_same(known_levels(HOUSES, [("x",)], ()), ((),))
        self.assert_same(known_levels(HOUSES, [()], house_points(HOUSES)), (house_points(HOUSES),))
        self.assert_same(knows_points(HOUSES, ("x",), ()), ())

    def test_wrong_some(self):
        wrong = ANY_VALUES + (((0, 1), (0, 1)), ((1, 0), (0, 1)), ((0, 3),), ([0, 1],), ((0, 1), None), ((2, 0),), "",
                              ((True, 0),), ((0, False),), (0, 1))
        for value in wrong:
            if value in ((), []):
                continue
            self.assert_error(InvalidSize, {"word": "some"}, knows_points, HOUSES, ("x",), value)
            for call in (everybody_knows, together_know, known_levels, common_points):
                self.assert_error(InvalidSize, {"word": "some"}, call, HOUSES, (("x",), ()), value)
            self.assert_error(InvalidSize, {"word": "some"}, common_chain, HOUSES, [()], value, None)

    def test_wrong_watchers(self):
        for value in ANY_VALUES + (("x",), ["x"]):
            if value == (("a",),) or value == ((),):
                continue
            for call in (everybody_knows, together_know, known_levels, common_points):
                self.assert_error(InvalidSize, {"word": "watchers"}, call, HOUSES, value, None)
            self.assert_error(InvalidSize, {"word": "watchers"}, common_chain, HOUSES, value, None, None)

    def test_by_the_words(self):
        rng = source(442)
        told = {}
        for _ in range(150):
            houses, watchers = some_houses(rng), some_watchers(rng)
            points = known_points(houses)
            some = some_of(rng, points, rng.choice([0.6, 0.9, 0.95]))
            for watcher in watchers:
                wanted = [point for point in points if set(likes(houses, watcher, points, point)) <= set(some)]
                self.assert_same(knows_points(houses, watcher, some), tuple(wanted))
            levels = self.known_all(houses, watchers, points, some)
            self.assert_same(everybody_knows(houses, watchers, some), levels[1] if len(levels) > 1 else levels[0])
            self.assert_same(known_levels(houses, tuple(watchers), list(some)), tuple(levels))
            self.assert_same(together_know(houses, watchers, some), self.known_together(houses, watchers, points, some))
            common = common_points(houses, watchers, some)
            self.assert_same(common, self.known_common(houses, watchers, points, some))
            self.assert_same(common, levels[-1])
            self.check_inclusions(houses, watchers, some, common)
            for point in points:
                chain = common_chain(houses, watchers, some, point)
                self.check_chain(houses, watchers, some, point, chain, levels)
                key = None if chain is None else len(chain)
                told[key] = told.get(key, 0) + 1
        self.assertTrue(all(told.get(key, 0) > 5 for key in (None, 0, 1, 2)), told)

    def known_all(self, houses, watchers, points, some):
        levels = [tuple(some)]
        while True:
            behind = tuple(point for point in points if all(
                set(likes(houses, watcher, points, point)) <= set(levels[-1]) for watcher in watchers))
            if behind == levels[-1]:
                return levels
            levels.append(behind)

    def known_together(self, houses, watchers, points, some):
        told = []
        for point in points:
            lots = [set(likes(houses, watcher, points, point)) for watcher in watchers]
            if set.intersection(*lots) <= set(some):
                told.append(point)
        return tuple(told)

    def known_common(self, houses, watchers, points, some):
        """The points from which no way of like ones leads out of some."""
        common = []
        for point in points:
            met, todo = set(), [point]
            while todo:
                one = todo.pop()
                if one not in met:
                    met.add(one)
                    todo += [like for watcher in watchers for like in likes(houses, watcher, points, one)]
            if met <= set(some):
                common.append(point)
        return tuple(common)

    def check_inclusions(self, houses, watchers, some, common):
        everybody = everybody_knows(houses, watchers, some)
        together = together_know(houses, watchers, some)
        both = tuple(sorted({name for watcher in watchers for name in watcher}))
        self.assertLessEqual(set(common), set(everybody))
        for watcher in watchers:
            known = knows_points(houses, watcher, some)
            self.assertLessEqual(set(everybody), set(known))
            self.assertLessEqual(set(known), set(together))
        self.assertLessEqual(set(together), set(knows_points(houses, both, some)))

    def check_chain(self, houses, watchers, some, point, chain, levels):
        self.assertEqual(chain is None, point in levels[-1])
        if chain is not None:
            self.assertIsInstance(chain, tuple)
            ahead = point
            for number, one in chain:
                self.assertEqual(heard(houses, watchers[number], one), heard(houses, watchers[number], ahead))
                ahead = one
            self.assertNotIn(ahead, some)
            self.assertEqual([point in level for level in levels], [at < len(chain) for at in range(len(levels))])


class TestKnown(BellCase):

    def test_by_hand(self):
        longer = Band(Hall(THINGS, EARLY.hall.bells + (("z", "at", ("a", 3), "any"),)))
        houses = (EARLY, LATER, longer, EARLY)
        self.assert_same(when_known(houses, ("x", "y")), (1, 1, 1, 1))
        self.assert_same(never_known(houses, ("x", "y", "z")), ((0, 2), (3, 2)))
        self.assert_same(when_known(houses=houses, watcher=("x", "y", "z")), (None, 1, 3, None))
        self.assert_same(when_known(houses, ()), (0, 0, 0, 0))
        self.assert_same(never_known(houses=houses, watcher=()), ())
        self.assert_same(when_known([EARLY], ("x",)), (0,))
        self.assert_same(when_known((EARLY, Band(Hall(THINGS, ()))), ("y",)), (1, None))
        self.assert_same(never_known((EARLY, Band(Hall(THINGS, ()))), ("y",)), ((1, 0),))

    def test_by_the_words(self):
        rng = source(443)
        told = {}
        for _ in range(150):
            houses, watcher = some_houses(rng), some_watchers(rng)[0]
            tales = [thin_tale(band.tale, watcher) for band in houses]
            wanted = []
            for tale in tales:
                fits = [k for k in range(len(tale) + 1) if all(
                    tales[house] == tale for house, _ in heard_fits(houses, watcher, tale[:k]))]
                wanted.append(fits[0] if fits else None)
            self.assert_same(when_known(houses, watcher), tuple(wanted))
            pairs = [(i, j) for i, j in itertools.permutations(range(len(tales)), 2)
                     if len(tales[i]) < len(tales[j]) and tales[j][:len(tales[i])] == tales[i]]
            self.assert_same(never_known(houses, watcher), tuple(pairs))
            self.assertEqual([at for at, k in enumerate(wanted) if k is None], sorted({i for i, _ in pairs}))
            for k in wanted:
                told[k] = told.get(k, 0) + 1
        self.assertTrue(all(told.get(key, 0) > 5 for key in (None, 0, 1, 2)), told)

    def test_greatest(self):
        things = [("a", (("w", (-96, 200, -140, 40, -4)),)), ("b", (("w", (-5, 11, -7, 1)),))]
        houses = []
        for n in range(4):
            bells = [("x", "at", ("a", n), "any"), ("y", "at", ("a", -n - 1), "any"), ("z", "at", ("b", n), "any")]
            houses.append(Band(Hall(things, bells)))
        rows = [("above", "a", 1), ("rises", "b"), ("until", 0, 1), ("soon", 2, 2), ("since", 3, 0), ("rings", "x"),
                ("until", 4, 5), ("lately", 6, 9)]
        stair = Stair(rows)
        watchers = [("x",), ("y",), ("z",), ("x", "z")]
        points = house_points(houses)
        self.assertGreater(len(points), 30)
        self.assert_soon(3, sure_points, houses, ("x",), stair)
        self.assert_soon(3, doubt_of, houses, (), (), stair)
        self.assert_soon(3, known_levels, houses, watchers, points[:-1])
        self.assert_soon(3, common_chain, houses, watchers, points[:-1], points[0])
        self.assert_soon(3, together_know, houses, watchers, points[:-1])

    def test_arguments_stay(self):
        houses, watchers, some = list(HOUSES), [("x",), ("y",)], list(BOTH)
        before = picture((houses, watchers, some))
        known_levels(houses, watchers, some)
        common_chain(houses, watchers, some, (0, 2))
        sure_points(houses, ("x",), NEAR)
        self.assertEqual(picture((houses, watchers, some)), before)


if __name__ == "__main__":
    unittest.main()
