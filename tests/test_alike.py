"""Promises [87] to [90]: which names part tales, clocks between rows, weaves and joins of rooms that are compared."""

import itertools
import unittest

from curvebells.alike import (
    alike_lots, bells_of, clock_pairs, deaf_lots, joins_followed, least_lots, parting_index, parting_lots, unparted_pairs,
    weave_apart,
)
from curvebells.errors import InvalidHeard, InvalidRooms
from curvebells.halls import Hall, rewound_hall
from curvebells.rooms import Rooms
from curvebells.rows import ring_row, thin_tale
from curvebells.watchers import never_known, when_known
from tests.helpers import ANY_VALUES, BellCase, picture, source
from tests.test_halls import some_hall
from tests.test_rooms import some_rooms
from tests.test_stamps import coming_rooms, coming_weaves, has_road, is_known_road, places_in, steps_of
from tests.test_watchers import some_houses, some_watchers

ONE, OTHER = (("x",), ("y",), ("x",)), (("x",), ("x",), ("y",))
A1, A2, B1, B2 = ("a", 1), ("a", 2), ("b", 1), ("b", 2)
ROOMS = Rooms([("a", (("x",), ("x",))), ("b", (("y",), ("y",)))])


def is_no_tale(value):
    return not (isinstance(value, tuple) and all(isinstance(lot, tuple) and lot and all(
        isinstance(name, str) and name.isascii() and name.islower() and len(name) < 9 for name in lot)
        and list(lot) == sorted(set(lot)) for lot in value))


WRONG = [value for value in ANY_VALUES if is_no_tale(value)] + [
    [("x",)], (["x"],), ((),), (("y", "x"),), (("x", "x"),), (("X",),), (("x",), None), "x", ("x",), ((1,),)]


def some_tale(rng, names, most=5):
    return tuple(tuple(sorted(rng.sample(names, rng.choice([1, 1, 2])))) for _ in range(rng.randint(0, most)))


def near_tale(rng, tale, names):
    """The tale a little changed, or its beginning, or in another order."""
    lots = list(tale)
    chance = rng.random()
    if chance < 0.25:
        return tale[:rng.randint(0, len(tale))]
    if chance < 0.5:
        rng.shuffle(lots)
    elif lots:
        at = rng.randrange(len(lots))
        lots[at:at + rng.randint(0, 1)] = [tuple(sorted(rng.sample(names, rng.randint(1, 2))))]
    return tuple(lots)


def parts(one, other, names, surely):
    """Whether names part two tales, by the words of [88]."""
    one, other = thin_tale(one, names), thin_tale(other, names)
    if surely:
        many = min(len(one), len(other))
        return one[:many] != other[:many]
    return one != other


def all_lots(names):
    """All lots of names, fewer names first, then ascending."""
    return [lot for many in range(len(names) + 1) for lot in itertools.combinations(sorted(names), many)]


def names_in(*tales):
    return sorted({name for tale in tales for lot in tale for name in lot})


def least_among(lots):
    return tuple(lot for lot in lots if not any(set(one) < set(lot) for one in lots))


def greatest_among(lots):
    return tuple(sorted(lot for lot in lots if not any(set(lot) < set(one) for one in lots)))


class TestTwo(BellCase):

    def test_by_hand(self):
        self.assert_same(parting_lots(ONE, OTHER), (("x", "y"),))
        self.assert_same(parting_lots(ONE, ONE[:2], surely=True), ())
        self.assert_same(parting_lots(one=ONE, other=ONE[:2]), (("x",),))
        self.assert_same(alike_lots(ONE, OTHER), (("x",), ("y",)))
        self.assert_same(alike_lots(one=ONE, other=ONE[:2]), (("y",),))
        self.assert_same(alike_lots(ONE, ONE[:2], surely=True), (("x", "y"),))
        self.assert_same(parting_lots(ONE, ONE), ())
        self.assert_same(alike_lots(ONE, ONE), (("x", "y"),))
        self.assert_same((parting_lots((), ()), alike_lots((), ())), ((), ((),)))
        self.assert_same((parting_lots((), ONE), alike_lots((), ONE)), ((("x",), ("y",)), ((),)))
        self.assert_same((parting_lots((), ONE, surely=True), alike_lots((), ONE, surely=True)), ((), (("x", "y"),)))
        self.assert_same(parting_lots((("x",), ("y",)), (("y",), ("x",)), surely=True), (("x", "y"),))
        self.assert_same(parting_lots((("x",), ("y",)), (("x", "y"),)), (("x", "y"),))
        with self.assertRaises(TypeError):
            parting_lots(ONE, OTHER, True)

    def test_index_by_hand(self):
        self.assert_same(parting_index(ONE, OTHER, ["x", "y"]), 1)
        self.assert_same(parting_index(one=ONE, other=OTHER, names=("x",)), None)
        self.assert_same(parting_index(ONE, ONE[:2], ("y", "x", "x")), 2)
        self.assert_same(parting_index(ONE[:1], ONE, ("x",)), 1)
        self.assert_same(parting_index((), ONE, ("y",)), 0)
        for names in ((), [], ("owl",)):
            self.assert_same(parting_index(ONE, (), names), None)

    def test_wrong(self):
        for value in WRONG:
            for call in (parting_lots, alike_lots):
                self.assert_error(InvalidHeard, {"at": 0}, call, value, value)
                self.assert_error(InvalidHeard, {"at": 1}, call, ONE, value, surely=True)
            self.assert_error(InvalidHeard, {"at": 0}, parting_index, value, None, ())
            self.assert_error(InvalidHeard, {"at": 1}, parting_index, (), value, ())

    def test_by_the_words(self):
        rng = source(480)
        told = {0: 0, 1: 0, 2: 0}
        for _ in range(200):
            names = "uvwxyz"[:rng.randint(2, 6)]
            one = some_tale(rng, names, 7)
            other = rng.choice([near_tale(rng, one, names), some_tale(rng, names, 7)])
            for surely in (False, True):
                lots = all_lots(names_in(one, other))
                parting = [lot for lot in lots if parts(one, other, lot, surely)]
                least = least_among(parting)
                self.assert_same(parting_lots(one, other, surely=surely), least)
                self.assertTrue(all(len(lot) == 2 or (len(lot) == 1 and not surely) for lot in least))
                rest = [lot for lot in lots if lot not in parting]
                self.assert_same(alike_lots(one, other, surely=surely), greatest_among(rest))
                for lot in least:
                    told[len(lot)] += 1
                told[0] += not least
            for lot in rng.sample(all_lots(names), 3):
                index = parting_index(one, other, list(lot))
                ones, others = thin_tale(one, lot), thin_tale(other, lot)
                self.assertEqual(index is None, ones == others)
                if index is not None:
                    self.assertEqual(ones[:index], others[:index])
                    self.assertNotEqual(ones[index:index + 1], others[index:index + 1])
        self.assertGreater(min(told.values()), 20)


class TestSeveral(BellCase):

    def test_by_hand(self):
        tales = [ONE, OTHER, ONE[:2], ONE]
        self.assert_same(bells_of(tales), ("x", "y"))
        self.assert_same(bells_of(tales=()), ())
        self.assert_same(bells_of([(), (("b", "c"), ("a",))]), ("a", "b", "c"))
        self.assert_same(unparted_pairs(tales, ["x"]), ((0, 1), (1, 3)))
        self.assert_same(unparted_pairs(tales=tales, names=("y",), surely=False), ((0, 1), (0, 2), (1, 2), (1, 3), (2, 3)))
        self.assert_same(unparted_pairs(tales, (), surely=True), ((0, 1), (1, 2), (1, 3)))
        self.assert_same(unparted_pairs(tales, ["y", "owl", "x"]), ())
        self.assert_same(least_lots(tales), (("x", "y"),))
        self.assert_same(least_lots(tales=tales[2:]), (("x",),))
        self.assert_same(deaf_lots(tales), (("x",), ("y",)))
        self.assert_same(deaf_lots(tales=tales[2:]), (("y",),))
        # Alike tales, told tales twice, none at all: nothing is left to be parted.
        for told in ((), [()], [ONE, ONE], ((), ())):
            self.assert_same((unparted_pairs(told, ()), least_lots(told), deaf_lots(told)), ((), ((),), ()))
        self.assert_same((least_lots(tales[2:], surely=True), deaf_lots(tales[2:], surely=True)), (((),), ()))

    def test_wrong(self):
        for value in ANY_VALUES:
            if not isinstance(value, (list, tuple)):
                for call in (bells_of, least_lots, deaf_lots):
                    self.assert_error(InvalidHeard, {"at": -1}, call, value)
                self.assert_error(InvalidHeard, {"at": -1}, unparted_pairs, value, ())
        for value in WRONG:
            for call in (bells_of, least_lots, deaf_lots):
                self.assert_error(InvalidHeard, {"at": 0}, call, [value, None])
                self.assert_error(InvalidHeard, {"at": 2}, call, (ONE, (), value))
            self.assert_error(InvalidHeard, {"at": 1}, unparted_pairs, [ONE, value], (), surely=True)

    def test_by_the_words(self):
        rng = source(481)
        sizes = set()
        for _ in range(80):
            names = "uvwxyz"[:rng.randint(2, 6)]
            tales = [some_tale(rng, names)]
            for _ in range(rng.randint(0, 3)):
                tales.append(near_tale(rng, rng.choice(tales), names))
            every = names_in(*tales)
            self.assert_same(bells_of(tales), tuple(every))
            for surely in (False, True):
                left = {}
                for lot in all_lots(every):
                    left[lot] = tuple(
                        (i, j) for i, j in itertools.combinations(range(len(tales)), 2)
                        if parts(tales[i], tales[j], every, surely) and not parts(tales[i], tales[j], lot, surely))
                self.assert_same(least_lots(tales, surely=surely), least_among([lot for lot in left if not left[lot]]))
                self.assert_same(deaf_lots(tuple(tales), surely=surely), greatest_among([lot for lot in left if left[lot]]))
                lot = rng.choice(list(left))
                self.assert_same(unparted_pairs(tales, lot, surely=surely), left[lot])
                sizes |= {len(lot) for lot in least_lots(tales, surely=surely)}
        self.assertGreaterEqual(sizes, {0, 1, 2, 3})

    def test_greatest(self):
        rng = source(482)
        tales = [tuple(tuple(sorted(rng.sample("uvwxyz", rng.randint(1, 6)))) for _ in range(12)) for _ in range(4)]
        for surely in (False, True):
            for call in (least_lots, deaf_lots):
                self.assert_soon(2, lambda: call(tales, surely=surely))
            self.assert_soon(2, lambda: alike_lots(tales[0], tales[1], surely=surely))

    def test_arguments_stay(self):
        tales, names = [ONE, OTHER], ["y", "x"]
        before = picture((tales, names))
        least_lots(tales)
        unparted_pairs(tales, names)
        parting_index(ONE, OTHER, names)
        self.assertEqual(picture((tales, names)), before)


class TestClocks(BellCase):

    def test_by_hand(self):
        hall = Hall.read("thing cat\nway run 0 1\nbell ding at cat 2 any\nbell dong at cat 6 any")
        slow = rewound_hall(hall, (0, 1, 1))
        row, other = ring_row(hall, (0,)), ring_row(slow, (0,))
        self.assert_same(clock_pairs(row, other), tuple((one[0], two[0]) for one, two in zip(row, other)))
        self.assert_same(clock_pairs(row=row, other=row[:1]), None)
        self.assert_same(clock_pairs((), ()), ())
        self.assert_same(clock_pairs(row[1:], row[:1]), None)

    def test_rewound(self):
        rng = source(483)
        for _ in range(20):
            hall = some_hall(rng)
            row, other = ring_row(hall, hall.first), ring_row(rewound_hall(hall, (0, 2, 1)), hall.first)
            self.assert_same(clock_pairs(row, other), tuple((one[0], two[0]) for one, two in zip(row, other)))
            if row:
                self.assert_same(clock_pairs(row, other[1:]), None)


class TestHouses(BellCase):

    def test_who_never_knows(self):
        # Of two houses one's heard tale begins the other's longer one just where names part them, but not surely.
        rng = source(485)
        told = {True: 0, False: 0}
        for _ in range(80):
            houses, watcher = some_houses(rng), some_watchers(rng)[0]
            tales = [band.tale for band in houses]
            parted = [(i, j) for i, j in itertools.combinations(range(len(tales)), 2)
                      if any(set(lot) <= set(watcher) for lot in parting_lots(tales[i], tales[j]))]
            surely = [(i, j) for i, j in parted
                      if any(set(lot) <= set(watcher) for lot in parting_lots(tales[i], tales[j], surely=True))]
            never = never_known(houses, watcher)
            self.assertEqual(sorted(tuple(sorted(pair)) for pair in never), [pair for pair in parted if pair not in surely])
            known = when_known(houses, watcher)
            self.assertEqual([at for at, many in enumerate(known) if many is None], sorted({house for house, _ in never}))
            told[bool(never)] += 1
        self.assertGreater(min(told.values()), 10)


class TestRooms(BellCase):

    def test_by_hand(self):
        one, other = ROOMS.with_call(A1, B1), ROOMS.with_call(A1, B2)
        # What comes in the second ones alone has b 1 ahead of a 1, or at once with it.
        self.assert_same(weave_apart(one, other), (1, ((A1, B1), (A2, B2))))
        self.assert_same(weave_apart(other, one), (0, ((A1, B1), (A2, B2))))
        self.assert_same(weave_apart(one=one, other=one), None)
        self.assert_same(weave_apart(one, one.with_call(A1, B2)), None)
        self.assert_same(joins_followed(one, other), ((A1, B1, B2),))
        self.assert_same(joins_followed(one=other, other=one), (None,))
        self.assert_same(joins_followed(one, ROOMS), ())

    def test_stuck_rooms(self):
        stuck = Rooms(ROOMS.rooms, [(A1, B1)], [(A1, B1)])
        self.assert_same(weave_apart(stuck, stuck.with_call(A2, B2)), None)
        self.assert_same(weave_apart(stuck, ROOMS), (1, ((A1, B1), (A2, B2))))
        self.assert_same(weave_apart(ROOMS, stuck), (0, ((A1, B1), (A2, B2))))
        self.assert_error(InvalidRooms, {"at": 3}, joins_followed, stuck, ROOMS)
        self.assert_same(joins_followed(ROOMS, stuck), (None, None))
        self.assert_same(joins_followed(ROOMS.with_gong(A1, B1), stuck), ((A1, B1), None))

    def test_other_rooms(self):
        for other in (Rooms(ROOMS.rooms[::-1]), Rooms(ROOMS.rooms[:1]), Rooms([("a", (("x",), ("y",))), ROOMS.rooms[1]])):
            self.assert_error(InvalidRooms, {"at": 1}, weave_apart, ROOMS, other)
            self.assert_error(InvalidRooms, {"at": 1}, joins_followed, ROOMS, other)
            stuck = Rooms(ROOMS.rooms, [(A1, B1)], [(A1, B1)])
            self.assert_error(InvalidRooms, {"at": 1}, joins_followed, stuck, other)

    def test_fewest_levels_then_first(self):
        rooms = Rooms([("b", (("x",),)), ("a", (("x",),)), ("c", (("x",),))])
        b, a, c = [(name, 1) for name in "bac"]
        # Three levels at least: of c, b, a and c, a, b the first one, as rooms stand.
        one = Rooms(rooms.rooms, (), [(c, b), (c, a)])
        other = Rooms(rooms.rooms, (), [(c, b), (c, a), (b, a)])
        self.assert_same(weave_apart(one, other), (0, ((c,), (b, a))))
        third = Rooms(rooms.rooms, [(b, a)], [(c, b)])
        self.assert_same(weave_apart(one, third), (0, ((c,), (b,), (a,))))

    def test_by_all_weaves(self):
        rng = source(484)
        counts = {}
        for _ in range(250):
            one = some_rooms(rng, 2) if rng.random() < 0.2 else coming_rooms(rng, 2, 3)
            other = self.changed(rng, one)
            one, other = rng.choice([(one, other), (other, one)])
            weaves, others = coming_weaves(one), coming_weaves(other)
            names = [name for name, _ in one.rooms]
            alone = [(0, weave) for weave in weaves if weave not in others] + [
                (1, weave) for weave in others if weave not in weaves]
            alone.sort(key=lambda pair: (len(pair[1]), [[(names.index(name), number) for name, number in level]
                                                        for level in pair[1]]))
            self.assert_same(weave_apart(one, other), alone[0] if alone else None)
            counts[alone[0][0] if alone else None] = counts.get(alone[0][0] if alone else None, 0) + 1
            if weaves:
                roads = joins_followed(one, other)
                self.check_roads(one, other, roads, weaves)
            if weaves and others:
                back = joins_followed(other, one)
                self.assertEqual(not alone, None not in roads and None not in back)
        self.assertTrue(all(counts[key] > 10 for key in (None, 0, 1)), counts)

    def changed(self, rng, rooms):
        """The same rooms with a join less, or more, or none."""
        steps = steps_of(rooms)
        pairs = [(one, two) for one in steps for two in steps if one[0] != two[0]]
        chance = rng.random()
        if chance < 0.4 and pairs:
            return getattr(rooms, rng.choice(["with_call", "with_gong"]))(*rng.choice(pairs))
        if chance < 0.6:
            return Rooms(rooms.rooms, rooms.gongs, rooms.calls[1:])
        if chance < 0.8:
            return Rooms(rooms.rooms, rooms.gongs[1:], rooms.calls)
        return Rooms(rooms.rooms, rooms.gongs[::-1], rooms.calls[::-1])

    def check_roads(self, one, other, roads, weaves):
        joins = [(join, {0}) for join in other.gongs] + [(join, {-1}) for join in other.calls]
        self.assertEqual(len(roads), len(joins))
        for (join, wanted), road in zip(joins, roads):
            signs = set()
            for weave in weaves:
                places = places_in(weave)
                signs.add((places[join[0]] > places[join[1]]) - (places[join[0]] < places[join[1]]))
            self.assertEqual(road is not None, signs == wanted)
            if road is not None:
                self.assertTrue(is_known_road(one, *join, road) and has_road(one, *join))

    def test_greatest(self):
        rooms = [(name, (("x",), ("y",))) for name in "abc"]
        steps = [(name, number) for name in "abc" for number in (1, 2)]
        calls = [(one, two) for one in steps for two in steps if one[0] != two[0] and one[1] < two[1]]
        one, other = Rooms(rooms, (), calls[:4]), Rooms(rooms, (), calls[2:])
        self.assertIsNotNone(self.assert_soon(2, weave_apart, one, other))
        self.assert_soon(2, joins_followed, one, other)


if __name__ == "__main__":
    unittest.main()
