"""Promises [66] to [69]: how many weaves, standings that they pass, wishes, fences; halls behind clocks and in rooms."""

import itertools
import unittest

from curvebells.errors import InvalidRooms, InvalidSize
from curvebells.halls import Hall, rewound_hall, with_bells
from curvebells.rooms import Rooms, is_weave, rooms_of, some_weave
from curvebells.sayings import Band
from curvebells.weaves import (
    always_passes, avoiding_weave, how_many, is_barred, is_fence, meeting_barred, meeting_weave, nth_weave, number_of,
    passing_weave, weave_passes, weaves_through, wish_fence,
)
from tests.helpers import ANY_VALUES, BellCase, picture, source
from tests.test_halls import some_hall
from tests.test_rooms import leads
from tests.test_stamps import STUCK, coming_rooms, coming_weaves, is_known_road, steps_of

EXAMPLE = Rooms([("a", (("d",), ("e",))), ("b", (("f",),))], (), [(("a", 1), ("b", 1))])
EMPTY = Rooms([("a", ()), ("b", ())])
A1, A2, B1 = ("a", 1), ("a", 2), ("b", 1)


def known_passes(rooms, weave):
    """The standings that a weave passes, by the words of [67]."""
    done = {name: 0 for name, _ in rooms.rooms}
    told = [tuple(done.values())]
    for level in weave:
        at = {name: number for name, number in level}
        told.append(tuple(2 * at[name] - 1 if name in at else 2 * many for name, many in done.items()))
        done.update(at)
        told.append(tuple(2 * many for many in done.values()))
    return tuple(told)


def all_standings(rooms):
    return list(itertools.product(*[range(2 * len(tale) + 1) for _, tale in rooms.rooms]))


def matches(rooms, told, standing):
    names = [name for name, _ in rooms.rooms]
    return all(standing[names.index(name)] == cell for name, cell in told)


def is_known_fence(rooms, wish, value):
    """Whether a tuple of standings is a fence, by the words of [68]."""
    last = tuple(2 * len(tale) for _, tale in rooms.rooms)
    first = tuple(0 for _ in rooms.rooms)
    if len(set(value)) < len(value) or last in value or any(standing in wish for standing in value):
        return False
    if first not in wish and first not in value:
        return False
    for weave in coming_weaves(rooms):
        told = known_passes(rooms, weave)
        for standing, behind in zip(told, told[1:]):
            if standing in value and behind not in value and behind not in wish:
                return False
    return True


def known_bars(rooms, told, name, other):
    """(end step, begin step) of two told rooms, if both are there."""
    many = {name: len(tale) for name, tale in rooms.rooms}
    cells = dict(told)
    end = (name, cells[name] // 2 + 1) if cells[name] % 2 == 0 else (name, (cells[name] + 1) // 2)
    begin = (other, cells[other] // 2) if cells[other] % 2 == 0 else (other, (cells[other] + 1) // 2)
    return (end, begin) if end[1] <= many[name] and begin[1] > 0 else None


class TestNumbers(BellCase):

    def test_by_hand(self):
        self.assert_same(how_many(EXAMPLE), 3)
        told = [((A1,), (A2,), (B1,)), ((A1,), (A2, B1)), ((A1,), (B1,), (A2,))]
        self.assert_same([nth_weave(EXAMPLE, number) for number in range(3)], told)
        self.assert_same([number_of(rooms=EXAMPLE, weave=weave) for weave in told], [0, 1, 2])
        self.assert_same(nth_weave(rooms=EXAMPLE, number=2), told[2])
        for rooms in (EMPTY, Rooms([("a", ())])):
            self.assert_same((how_many(rooms), nth_weave(rooms, 0), number_of(rooms, ())), (1, (), 0))
        lone = Rooms([("b", (("x",), ("y",)))])
        self.assert_same((how_many(rooms=lone), nth_weave(lone, 0)), (1, ((B1,), (("b", 2),))))

    def test_rooms_as_they_stand(self):
        rooms = Rooms([("z", (("x",),)), ("a", (("x",),))])
        z, a = ("z", 1), ("a", 1)
        self.assert_same([nth_weave(rooms, number) for number in range(3)], [((z,), (a,)), ((z, a),), ((a,), (z,))])

    def test_wrong(self):
        for value in ANY_VALUES + (3, 4, -1, 1.0, "1", (1,)):
            if not (value.__class__ is int and 0 <= value < 3):
                self.assert_error(InvalidSize, {"word": "number"}, nth_weave, EXAMPLE, value)
            self.assert_error(InvalidRooms, {"at": 3}, nth_weave, STUCK, value)
        for value in ANY_VALUES:
            if not (value.__class__ is int and value == 0):
                self.assert_error(InvalidSize, {"word": "number"}, nth_weave, EMPTY, value)

    def test_no_weave(self):
        self.assert_error(InvalidRooms, {"at": 3}, how_many, STUCK)
        self.assert_error(InvalidRooms, {"at": 3}, number_of, STUCK, ((A1, B1), (A2,)))
        self.assert_error(InvalidRooms, {"at": 3}, weave_passes, STUCK, ((A1, B1), (A2,)))
        for value in ANY_VALUES:
            for call in (meeting_weave, meeting_barred, passing_weave, avoiding_weave, always_passes, weaves_through, wish_fence):
                self.assert_error(InvalidRooms, {"at": 3}, call, STUCK, value)
            self.assert_error(InvalidRooms, {"at": 3}, is_barred, STUCK, value, value)
            self.assert_error(InvalidRooms, {"at": 3}, is_fence, STUCK, value, value)

    def test_by_all_weaves(self):
        rng = source(470)
        for _ in range(80):
            rooms = coming_rooms(rng)
            names = [name for name, _ in rooms.rooms]
            weaves = coming_weaves(rooms)
            weaves.sort(key=lambda weave: [[(names.index(name), number) for name, number in level] for level in weave])
            self.assert_same(how_many(rooms), len(weaves))
            for number in rng.sample(range(len(weaves)), min(4, len(weaves))):
                self.assert_same(nth_weave(rooms, number), weaves[number])
                self.assert_same(number_of(rooms, weaves[number]), number)
                self.assert_same(weave_passes(rooms, weaves[number]), known_passes(rooms, weaves[number]))
            for value in (len(weaves), len(weaves) + 1, -1):
                self.assert_error(InvalidSize, {"word": "number"}, nth_weave, rooms, value)


class TestMeeting(BellCase):

    def test_by_hand(self):
        self.assert_same(weave_passes(EXAMPLE, ((A1,), (A2, B1))), ((0, 0), (1, 0), (2, 0), (3, 1), (4, 2)))
        self.assert_same(weave_passes(rooms=EMPTY, weave=()), ((0, 0),))
        self.assert_same(meeting_barred(EXAMPLE, [("a", 0), ("b", 2)]), ("a", "b", (A1, B1)))
        self.assert_same(meeting_weave(EXAMPLE, [("a", 0), ("b", 2)]), None)
        self.assert_same(meeting_weave(rooms=EXAMPLE, told=(("a", 3), ("b", 1))), ((A1,), (A2, B1)))
        self.assert_same(meeting_barred(rooms=EXAMPLE, told=(("a", 3), ("b", 1))), None)
        self.assert_same(meeting_barred(EXAMPLE, [("b", 1), ("a", 1)]), ("a", "b", (A1, B1)))
        self.assert_same(meeting_barred(EXAMPLE, [("a", 0)]), None)
        self.assert_same(meeting_weave(EMPTY, [("a", 0), ("b", 0)]), ())

    def test_gongs(self):
        # At one gong both odd cells meet; an odd one beside an even one doesn't.
        rooms = Rooms([("a", (("x",), ("y",))), ("b", (("z",),))], [(A1, B1)])
        for cell, beside, meets in ((1, 1, True), (1, 0, False), (1, 2, False), (0, 1, False), (2, 1, False), (0, 0, True),
                                    (2, 2, True), (2, 0, False), (3, 2, True), (3, 1, False), (4, 2, True), (0, 2, False)):
            told = [("a", cell), ("b", beside)]
            self.assertEqual(meeting_weave(rooms, told) is not None, meets, told)
            self.assertEqual(meeting_barred(rooms, told) is None, meets, told)
            for names, road in ((("a", "b"), (A1, B1)), (("b", "a"), (B1, A1)), (("b", "a"), (B1, A1, A2)), (("a", "b"), (A2, A1, B1))):
                steps = known_bars(rooms, told, *names)
                wanted = steps is not None and is_known_road(rooms, *steps, road) and (
                    cell % 2 == 0 or beside % 2 == 0 or A2 in road)
                self.assert_same(is_barred(rooms, told, (*names, road)), wanted)

    def test_wrong_told(self):
        wrong = ANY_VALUES + ([("a", 5)], [("a", -1)], [("b", 3)], [("c", 0)], [("a", 0), ("a", 0)], [("a", 0), ("a", 1)],
                              [["a", 0]], [("a", 0, 0)], [("a",)], [("a", True)], [("a", 0), None], ("a", 0), "a", [(["a"], 0)])
        for value in wrong:
            for call in (meeting_weave, meeting_barred):
                self.assert_error(InvalidRooms, {"at": 4}, call, EXAMPLE, value)
            self.assert_error(InvalidRooms, {"at": 4}, is_barred, EXAMPLE, value, None)

    def test_barred_values(self):
        told = [("a", 0), ("b", 2)]
        good = ("a", "b", (A1, B1))
        self.assert_same(is_barred(rooms=EXAMPLE, told=told, value=good), True)
        for value in (list(good), good[:2], good + (1,), ("b", "a", (A1, B1)), ("a", "a", (A1, B1)), ("b", "b", (B1,)),
                      ("a", "c", (A1, B1)), ("a", "b", [A1, B1]), ("a", "b", (B1, A1)), ("a", "b", (A1,)), ("a", "b", ()),
                      (["a"], "b", (A1, B1)), ("a", None, (A1, B1)), ("a", "b", (A1, A2, B1)), ("a", "b", ([*A1], B1))):
            self.assert_same(is_barred(EXAMPLE, told, value), False)
        for value in ANY_VALUES:
            self.assert_same(is_barred(EXAMPLE, told, value), False)
            self.assert_same(is_barred(EXAMPLE, told, ("a", "b", value)), False)
            self.assert_same(is_barred(EXAMPLE, told, (value, "b", (A1, B1))), value.__class__ is str and value == "a")
            self.assert_same(is_barred(EXAMPLE, told, ("a", value, (A1, B1))), False)
        # Of a room that is not told nothing is said.
        self.assert_same(is_barred(EXAMPLE, told[:1], good), False)
        longer = Rooms([("a", (("x",),) * 3), ("b", (("z",),))], (), [(("a", 2), B1)])
        self.assert_same(is_barred(longer, told, ("a", "b", (A1, A2, B1))), True)
        self.assert_same(is_barred(longer, [("a", 1), ("b", 1)], ("a", "b", (A1, A2, B1))), True)

    def test_by_all_weaves(self):
        rng = source(471)
        counts = {True: 0, False: 0}
        for _ in range(80):
            rooms = coming_rooms(rng)
            weaves = coming_weaves(rooms)
            for _ in range(6):
                chosen = rng.sample(rooms.rooms, rng.randint(1, len(rooms.rooms)))
                told = [(name, rng.randint(0, 2 * len(tale))) for name, tale in chosen]
                meets = any(matches(rooms, told, standing) for weave in weaves for standing in known_passes(rooms, weave))
                counts[meets] += 1
                weave = self.assert_kept(meeting_weave, rooms, told)
                triple = self.assert_kept(meeting_barred, rooms, tuple(told))
                self.assertEqual((weave is not None, triple is None), (meets, meets))
                if meets:
                    self.assertIn(weave, weaves)
                    self.assertTrue(any(matches(rooms, told, standing) for standing in known_passes(rooms, weave)))
                else:
                    self.check_triple(rooms, told, triple)
                self.check_roads(rng, rooms, told, meets)
        self.assertGreater(min(counts.values()), 30)

    def check_triple(self, rooms, told, triple):
        name, other, road = triple
        self.assertTrue(is_known_road(rooms, *known_bars(rooms, told, name, other), road))
        self.assert_same(is_barred(rooms, told, triple), True)

    def check_roads(self, rng, rooms, told, meets):
        """No road of whatever length bars what meets; else those of two told rooms that part them."""
        for (name, cell), (other, beside) in itertools.permutations(told, 2):
            steps = known_bars(rooms, told, name, other)
            for _ in range(3):
                inner = tuple(rng.choice(steps_of(rooms)) for _ in range(rng.randint(0, 2))) if steps else ()
                road = (steps[0],) + inner + (steps[1],) if steps else ()
                parts = cell % 2 == 0 or beside % 2 == 0 or any(
                    leads(rooms, one, two) == "ahead" for one, two in zip(road, road[1:]))
                wanted = bool(steps) and is_known_road(rooms, *steps, road) and parts
                self.assert_same(is_barred(rooms, told, (name, other, road)), wanted)
                self.assertFalse(meets and wanted)


class TestWishes(BellCase):

    def test_by_hand(self):
        self.assert_same(wish_fence(EXAMPLE, [(1, 0)]), ((0, 0),))
        self.assert_same(always_passes(EXAMPLE, [(1, 0)]), True)
        self.assert_same(weaves_through(EXAMPLE, [(1, 0)]), 3)
        self.assert_same(avoiding_weave(EXAMPLE, [(1, 0)]), None)
        self.assert_same(weaves_through(rooms=EXAMPLE, wish=((3, 1),)), 1)
        self.assert_same(passing_weave(rooms=EXAMPLE, wish=((3, 1),)), ((A1,), (A2, B1)))
        self.assert_same(always_passes(rooms=EXAMPLE, wish=((3, 1), (3, 0))), False)
        self.assert_same(avoiding_weave(rooms=EXAMPLE, wish=((3, 1), (3, 0))), ((A1,), (B1,), (A2,)))
        self.assert_same(wish_fence(rooms=EXAMPLE, wish=((3, 1), (3, 0))), None)
        self.assert_same(wish_fence(EXAMPLE, ((3, 1), (3, 0), (2, 2))), ((0, 0), (1, 0), (2, 0), (2, 1)))
        self.assert_same(is_fence(rooms=EXAMPLE, wish=((3, 1), (3, 0), (2, 1)), value=((2, 0), (1, 0), (0, 0))), True)

    def test_no_standing_first_and_last(self):
        self.assert_same((passing_weave(EXAMPLE, []), always_passes(EXAMPLE, ()), weaves_through(EXAMPLE, [])), (None, False, 0))
        self.assertTrue(is_weave(EXAMPLE, avoiding_weave(EXAMPLE, ())))
        self.assert_same(wish_fence(EXAMPLE, ()), None)
        for wish in ([(0, 0)], [(4, 2)], [(4, 2), (0, 0), (0, 0)]):
            self.assertTrue(is_weave(EXAMPLE, passing_weave(EXAMPLE, wish)))
            self.assert_same((avoiding_weave(EXAMPLE, wish), always_passes(EXAMPLE, wish), weaves_through(EXAMPLE, wish)),
                             (None, True, 3))
        self.assert_same(wish_fence(EXAMPLE, [(0, 0)]), ())
        self.assert_same(is_fence(EXAMPLE, [(0, 0)], ()), True)
        self.assert_same(is_fence(EXAMPLE, [(1, 0)], ()), False)
        self.assert_same(len(wish_fence(EXAMPLE, [(4, 2)])), 10)
        self.assert_same((wish_fence(EMPTY, [(0, 0)]), wish_fence(EMPTY, ()), always_passes(EMPTY, [(0, 0)])), ((), None, True))
        self.assert_same((is_fence(EMPTY, [(0, 0)], ()), is_fence(EMPTY, (), ()), is_fence(EMPTY, (), ((0, 0),))), (True, False, False))
        # A standing that no weave passes.
        self.assert_same((passing_weave(EXAMPLE, [(0, 2)]), weaves_through(EXAMPLE, [(0, 2)])), (None, 0))

    def test_wrong_wishes(self):
        wrong = ANY_VALUES + ([(0,)], [(0, 0, 0)], [(5, 0)], [(0, 3)], [(-1, 0)], [(0, True)], [[0, 0]], [(0, 0), None], "", (0, 0))
        for value in wrong:
            if value in ((), [], ((1, 2), (3, 4))):
                continue
            for call in (passing_weave, avoiding_weave, always_passes, weaves_through, wish_fence):
                self.assert_error(InvalidRooms, {"at": 4}, call, EXAMPLE, value)
            self.assert_error(InvalidRooms, {"at": 4}, is_fence, EXAMPLE, value, ())

    def test_fence_values(self):
        wish, fence = [(1, 0)], ((0, 0),)
        self.assert_same(is_fence(EXAMPLE, wish, fence), True)
        for value in (list(fence), fence * 2, fence + ((1, 0),), fence + ((4, 2),), ([0, 0],), ((0, False),), ((0, 0, 0),), ((0,),),
                      fence + ((2, 0),), fence + (None,), fence + ((5, 0),), ((2, 0),), fence + ((3, 0),)):
            self.assert_same(is_fence(EXAMPLE, wish, value), False)
        # What no weave passes has nothing next to it.
        self.assert_same(is_fence(EXAMPLE, wish, fence + ((0, 2), (1, 1))), True)
        for value in ANY_VALUES:
            self.assert_same(is_fence(EXAMPLE, wish, value), False)
            # Two of these are standings that no weave passes.
            wanted = value in ((1, 2), (0, 2)) and value.__class__ is tuple and True not in [one is True for one in value]
            self.assert_same(is_fence(EXAMPLE, wish, fence + (value,)), wanted)

    def test_by_all_weaves(self):
        rng = source(472)
        counts = {"all": 0, "some": 0, "none": 0}
        for _ in range(120):
            rooms = coming_rooms(rng)
            weaves = coming_weaves(rooms)
            standings = all_standings(rooms)
            wish = rng.sample(standings, min(len(standings), rng.choice([0, 1, 2, 5, 9])))
            through = [weave for weave in weaves if set(known_passes(rooms, weave)) & set(wish)]
            counts["all" if len(through) == len(weaves) else "some" if through else "none"] += 1
            self.assert_same(weaves_through(rooms, wish), len(through))
            self.assert_same(always_passes(rooms, tuple(wish)), len(through) == len(weaves))
            passing, avoiding = passing_weave(rooms, wish), self.assert_kept(avoiding_weave, rooms, wish)
            self.assertEqual(passing is not None, bool(through))
            self.assertEqual(avoiding is not None, len(through) < len(weaves))
            self.assertTrue(passing is None or passing in through)
            self.assertTrue(avoiding is None or (avoiding in weaves and avoiding not in through))
            self.check_fences(rng, rooms, wish, standings)
        self.assertGreater(min(counts.values()), 8, counts)

    def check_fences(self, rng, rooms, wish, standings):
        fence = wish_fence(rooms, wish)
        self.assertEqual(fence is not None, always_passes(rooms, wish))
        if fence is not None:
            self.assert_same(fence, tuple(sorted(fence)))
            self.assertTrue(is_known_fence(rooms, wish, fence))
            for at in range(len(fence)):
                self.assert_same(is_fence(rooms, wish, fence[:at] + fence[at + 1:]), False)
        for _ in range(4):
            more = rng.sample(standings, min(len(standings), rng.randint(0, 3)))
            value = (fence or ()) + tuple(one for one in more if one not in (fence or ()))
            value = tuple(rng.sample(value, len(value)))
            self.assert_same(is_fence(rooms, wish, value), is_known_fence(rooms, wish, value))

    def test_greatest(self):
        rooms = Rooms([(name, (("d",),) * 4) for name in "abc"])
        many = self.assert_soon(3, how_many, rooms)
        self.assertGreater(many, 10 ** 5)
        weave = self.assert_soon(3, nth_weave, rooms, many - 1)
        self.assert_same(self.assert_soon(3, number_of, rooms, weave), many - 1)
        wish = [(n, 8 - n, m) for n in range(9) for m in (3, 4, 5, 6)]
        for call in (passing_weave, avoiding_weave, always_passes, weaves_through, wish_fence):
            self.assert_soon(3, call, rooms, wish)
        told = [("a", 3), ("b", 5), ("c", 8)]
        self.assert_soon(3, meeting_weave, rooms, told)
        fence = wish_fence(rooms, [(8, 8, 8)])
        # All but the last one that some weave passes: levels of one, two or three rooms, each behind what it stands for.
        self.assertEqual(len(fence), 9 ** 3 - 1)
        self.assert_same(self.assert_soon(3, is_fence, rooms, [(8, 8, 8)], fence), True)

    def test_arguments_stay(self):
        wish, told = [(1, 0)], [("a", 0), ("b", 2)]
        before = picture((EXAMPLE, wish, told))
        wish_fence(EXAMPLE, wish)
        meeting_barred(EXAMPLE, told)
        weave_passes(EXAMPLE, some_weave(EXAMPLE))
        self.assertEqual(picture((EXAMPLE, wish, told)), before)


class TestHalls(BellCase):

    def test_behind_a_clock(self):
        rng = source(473)
        for _ in range(15):
            halls = [some_hall(rng) for _ in range(2)]
            bands = [("a", Band(halls[0])), ("b", Band(halls[1]))]
            if sum(len(band.tale) for _, band in bands) > 8:
                continue
            slow = [(name, Band(rewound_hall(band.hall, (0, 2, 1)))) for name, band in bands]
            self.assertEqual(rooms_of(bands), rooms_of(slow))
            self.assert_same(how_many(rooms_of(bands)), how_many(rooms_of(slow)))

    def test_parted_among_rooms(self):
        rng = source(474)
        shared = 0
        for _ in range(60):
            things = [(name, (("w", rng.choice([(0, 1), (0, 2), (6, -1), (3, -4, 1)])),)) for name in ("cat", "dog")]
            bells = [(name, "at", (rng.choice(things)[0], rng.randint(0, 4)), "any") for name in "pqrs"]
            hall = Hall(things, bells + [("t", "meet", ("cat", "dog"), "any")])
            tale = Band(hall).tale
            parts = {bell[0]: rng.choice("ab") for bell in hall.bells}
            lots = {name: [bell for bell in hall.bells if parts[bell[0]] == name] for name in "ab"}
            rooms = rooms_of([(name, Band(with_bells(hall, lots[name]))) for name in "ab"])
            gongs, weave, done = [], [], {"a": 0, "b": 0}
            for lot in tale:
                level = []
                for name in "ab":
                    if any(parts[bell] == name for bell in lot):
                        done[name] += 1
                        level.append((name, done[name]))
                if len(level) == 2:
                    gongs.append(tuple(level))
                weave.append(tuple(level))
            shared += len(gongs)
            rooms = Rooms(rooms.rooms, gongs)
            self.assert_same(is_weave(rooms, tuple(weave)), True)
            if sum(len(room[1]) for room in rooms.rooms) <= 14:
                self.assertEqual(nth_weave(rooms, number_of(rooms, tuple(weave))), tuple(weave))
        self.assertGreater(shared, 3)


if __name__ == "__main__":
    unittest.main()
