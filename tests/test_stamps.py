"""Promises [63] to [65]: which steps are ahead of which in all weaves, roads, stamps, needless and missing joins."""

import itertools
import unittest

from curvebells.errors import InvalidRooms, NoName
from curvebells.rooms import Rooms, is_weave
from curvebells.stamps import (
    is_road, join_road, kept_calls, missing_joins, stamp_of, step_relation, three_weaves,
)
from tests.helpers import ANY_VALUES, BellCase, picture, source
from tests.test_rooms import all_weaves, comes, leads, some_rooms

EXAMPLE = Rooms([("a", (("d",), ("e",))), ("b", (("f",),))], (), [(("a", 1), ("b", 1))])
JOINED = Rooms([("a", (("d",),) * 3), ("b", (("e",),) * 3), ("c", (("f",),))],
               [(("a", 2), ("b", 2)), (("b", 2), ("a", 2))], [(("b", 2), ("c", 1)), (("a", 1), ("c", 1)), (("a", 2), ("c", 1))])
STUCK = Rooms(EXAMPLE.rooms, [(("a", 1), ("b", 1))], EXAMPLE.calls)
A1, A2, A3, B1, B2, B3, C1 = [(name, number) for name in "abc" for number in (1, 2, 3)][:7]


def coming_rooms(rng, most=3, joins=5):
    """Rooms with joins that some weave keeps."""
    bare = some_rooms(rng, most, 0)
    places = places_in(rng.choice(all_weaves(bare)))
    pairs = [pair for pair in itertools.permutations(places, 2) if pair[0][0] != pair[1][0]]
    gongs = [pair for pair in pairs if places[pair[0]] == places[pair[1]]]
    calls = [pair for pair in pairs if places[pair[0]] < places[pair[1]]]
    return Rooms(bare.rooms, rng.sample(gongs, min(len(gongs), rng.randint(0, 2))),
                 [rng.choice(calls) for _ in range(rng.randint(0, joins) if calls else 0)])


def steps_of(rooms):
    return [(name, number) for name, tale in rooms.rooms for number in range(1, len(tale) + 1)]


def coming_weaves(rooms):
    return [weave for weave in all_weaves(rooms) if comes(rooms, weave)]


def places_in(weave):
    return {step: at for at, level in enumerate(weave) for step in level}


def has_road(rooms, one, other):
    met, todo = set(), [one]
    while todo:
        step = todo.pop()
        if step not in met:
            met.add(step)
            todo += [behind for behind in steps_of(rooms) if leads(rooms, step, behind)]
    return other in met


def is_known_road(rooms, one, other, value):
    """Whether a tuple of steps is a road, by the words of [61]."""
    return (len(value) > 0 and len(set(value)) == len(value) and value[0] == one and value[-1] == other
            and all(leads(rooms, step, behind) for step, behind in zip(value, value[1:])))


class TestRelations(BellCase):

    def test_by_hand(self):
        self.assert_same(step_relation(EXAMPLE, A1, B1), "ahead")
        self.assert_same(step_relation(rooms=EXAMPLE, one=B1, other=A1), "behind")
        self.assert_same(step_relation(EXAMPLE, A2, B1), "open")
        self.assert_same(step_relation(EXAMPLE, A2, A2), "at once")
        self.assert_same(step_relation(EXAMPLE, A2, A1), "behind")
        self.assert_same(step_relation(JOINED, A2, B2), "at once")
        self.assert_same(step_relation(JOINED, B1, A3), "ahead")
        self.assert_same(step_relation(JOINED, C1, B1), "behind")
        self.assert_same(step_relation(JOINED, C1, A3), "open")

    def test_roads_by_hand(self):
        self.assert_same(join_road(JOINED, B1, A3), (B1, B2, A2, A3))
        self.assert_same(join_road(rooms=JOINED, one=C1, other=C1), (C1,))
        self.assert_same(join_road(JOINED, C1, A1), None)
        self.assert_same(join_road(JOINED, A1, C1), (A1, C1))
        self.assert_same(is_road(JOINED, A1, C1, (A1, A2, B2, C1)), True)
        self.assert_same(is_road(rooms=JOINED, one=A1, other=C1, value=(A1, C1)), True)
        self.assert_same(is_road(JOINED, A1, A1, (A1,)), True)
        for value in ((), (A1,), (C1,), (A1, A2), (A2, C1), (A1, A2, A1, C1), (A1, B2, C1), [A1, C1], (A1, ["c", 1]),
                      (A1, ("c", True)), (("a", True), C1), (A1, A3, C1), (A1, A2, A2, C1), (A1, None, C1), (C1, A1)):
            self.assert_same(is_road(JOINED, A1, C1, value), False)
        for value in ANY_VALUES:
            self.assert_same(is_road(JOINED, A1, C1, value), False)
            self.assert_same(is_road(JOINED, A1, C1, (A1, value, C1)), False)

    def test_three_by_hand(self):
        self.assert_same(three_weaves(EXAMPLE, A1, B1), None)
        self.assert_same(three_weaves(rooms=EXAMPLE, one=A1, other=A1), None)
        self.assert_same(three_weaves(EXAMPLE, A2, B1), (((A1,), (A2,), (B1,)), ((A1,), (A2, B1)), ((A1,), (B1,), (A2,))))

    def test_stamps_by_hand(self):
        self.assert_same(stamp_of(EXAMPLE, B1), (1, 1))
        self.assert_same(stamp_of(rooms=EXAMPLE, step=A2), (2, 0))
        self.assert_same([stamp_of(JOINED, step) for step in (A1, A2, A3, B1, B2, B3, C1)],
                         [(1, 0, 0), (2, 2, 0), (3, 2, 0), (0, 1, 0), (2, 2, 0), (2, 3, 0), (2, 2, 1)])

    def test_no_weave(self):
        for value in ANY_VALUES:
            self.assert_error(InvalidRooms, {"at": 3}, stamp_of, STUCK, value)
            for call in (step_relation, join_road, three_weaves):
                self.assert_error(InvalidRooms, {"at": 3}, call, STUCK, value, value)
            self.assert_error(InvalidRooms, {"at": 3}, is_road, STUCK, value, value, value)
        self.assert_error(InvalidRooms, {"at": 3}, kept_calls, STUCK)
        self.assert_error(InvalidRooms, {"at": 3}, missing_joins, STUCK, ((A1, B1), (A2,)))

    def test_wrong_steps(self):
        wrong = (("a", 0), ("a", 3), ("b", 2), ("c", 1), ["a", 1], ("a", True), ("a",), ("a", 1, 1), "a", None)
        for value in ANY_VALUES + wrong:
            self.assert_error(NoName, {"name": value}, stamp_of, EXAMPLE, value)
            for call in (step_relation, join_road, three_weaves):
                self.assert_error(NoName, {"name": value}, call, EXAMPLE, value, None)
                self.assert_error(NoName, {"name": value}, call, EXAMPLE, A1, value)
            self.assert_error(NoName, {"name": value}, is_road, EXAMPLE, value, None, None)
            self.assert_error(NoName, {"name": value}, is_road, EXAMPLE, A1, value, None)

    def test_by_the_weaves(self):
        rng = source(450)
        told = {}
        for _ in range(120):
            rooms = rng.choice([some_rooms, coming_rooms])(rng)
            weaves = coming_weaves(rooms)
            if not weaves:
                self.assert_error(InvalidRooms, {"at": 3}, kept_calls, rooms)
                continue
            steps = steps_of(rooms)
            for step in steps:
                self.check_stamp(rooms, weaves, step)
            pairs = [(one, other) for one in steps for other in steps]
            for one, other in rng.sample(pairs, min(12, len(pairs))):
                signs = set()
                for weave in weaves:
                    places = places_in(weave)
                    signs.add((places[one] > places[other]) - (places[one] < places[other]))
                relation = {(-1,): "ahead", (0,): "at once", (1,): "behind"}.get(tuple(signs), "open")
                self.assert_same(step_relation(rooms, one, other), relation)
                told[relation] = told.get(relation, 0) + 1
                self.assertEqual(relation == "open", len(signs) == 3)
                self.check_three(rooms, one, other, relation)
                self.check_roads(rng, rooms, one, other)
        self.assertTrue(all(told[word] > 30 for word in ("ahead", "at once", "behind", "open")), told)

    def check_stamp(self, rooms, weaves, step):
        stamp = self.assert_kept(stamp_of, rooms, step)
        wanted = []
        for name, tale in rooms.rooms:
            own = [(name, number) for number in range(1, len(tale) + 1)]
            wanted.append(len([one for one in own if all(places_in(weave)[one] <= places_in(weave)[step] for weave in weaves)]))
        self.assert_same(stamp, tuple(wanted))
        names = [name for name, _ in rooms.rooms]
        for one in steps_of(rooms):
            self.assertEqual(has_road(rooms, one, step), stamp[names.index(one[0])] >= one[1])

    def check_three(self, rooms, one, other, relation):
        three = three_weaves(rooms, one, other)
        self.assertEqual(three is None, relation != "open")
        if three is not None:
            self.assertEqual(len(three), 3)
            for weave, sign in zip(three, (-1, 0, 1)):
                self.assert_same(is_weave(rooms, weave), True)
                places = places_in(weave)
                self.assertEqual((places[one] > places[other]) - (places[one] < places[other]), sign)

    def check_roads(self, rng, rooms, one, other):
        road = join_road(rooms, one, other)
        self.assertEqual(road is not None, has_road(rooms, one, other))
        if road is not None:
            self.assertTrue(is_known_road(rooms, one, other, road))
            self.assert_same(is_road(rooms, one, other, road), True)
            between = [step for step in steps_of(rooms) if step not in (one, other)]
            for many in range(max(len(road) - 2, 0)):
                for inner in itertools.permutations(between, many):
                    self.assertFalse(is_known_road(rooms, one, other, (one,) + inner + (other,)))
        steps = steps_of(rooms)
        for _ in range(4):
            value = tuple(rng.choice(steps) for _ in range(rng.randint(0, 3)))
            for told in (value, (one,) + value + (other,), (one, other)):
                self.assert_same(is_road(rooms, one, other, told), is_known_road(rooms, one, other, told))


class TestJoins(BellCase):

    def test_kept_by_hand(self):
        # The last call follows from the first one and the gong; the second one does then, too.
        self.assert_same(kept_calls(JOINED), (0,))
        self.assert_same(kept_calls(rooms=EXAMPLE), (0,))
        self.assert_same(kept_calls(EXAMPLE.with_call(A1, B1)), (0,))
        self.assert_same(kept_calls(EXAMPLE.without_joins()), ())
        longer = Rooms([("a", (("d",),) * 3), ("b", (("e",),) * 3)], (), [(A2, B2), (A1, B2), (A1, B1), (A2, B3), (B2, A3)])
        self.assert_same(kept_calls(longer), (0, 2, 4))

    def test_missing_by_hand(self):
        told = missing_joins(EXAMPLE, ((A1,), (A2, B1)))
        self.assert_same(len(told), 1)
        self.assertIn(told, ((("gong", A2, B1),), (("gong", B1, A2),)))
        self.assert_same(missing_joins(rooms=EXAMPLE, weave=((A1,), (A2,), (B1,))), (("call", A2, B1),))
        self.assert_same(missing_joins(EXAMPLE, ((A1,), (B1,), (A2,))), (("call", B1, A2),))
        self.assert_same(missing_joins(Rooms([("a", (("d",),))]), ((A1,),)), ())
        self.assert_same(missing_joins(Rooms([("a", ())]), ()), ())
        three = Rooms([(name, (("d",),)) for name in "abc"], [(("a", 1), ("c", 1))])
        self.assert_same(len(missing_joins(three, ((A1, B1, C1),))), 1)
        self.assert_same(len(missing_joins(three.without_joins(), ((A1, B1, C1),))), 2)

    def test_by_the_weaves(self):
        rng = source(451)
        fewer = 0
        for _ in range(80):
            rooms = coming_rooms(rng, 2)
            weaves = coming_weaves(rooms)
            kept = self.assert_kept(kept_calls, rooms)
            self.check_calls(rooms, weaves, kept)
            fewer += len(kept) < len(rooms.calls)
            for weave in rng.sample(weaves, min(3, len(weaves))):
                self.check_missing(rooms, weave)
        self.assertGreater(fewer, 10)

    def check_calls(self, rooms, weaves, kept):
        left = list(range(len(rooms.calls)))
        for number in reversed(left[:]):
            rest = [one for one in left if one != number]
            if has_road(self.by_calls(rooms, rest), *rooms.calls[number]):
                left = rest
        self.assert_same(kept, tuple(left))
        self.assertEqual(coming_weaves(self.by_calls(rooms, kept)), weaves)
        for lot in itertools.combinations(range(len(rooms.calls)), len(kept) - 1) if kept else ():
            self.assertNotEqual(coming_weaves(self.by_calls(rooms, lot)), weaves)

    def by_calls(self, rooms, numbers):
        return Rooms(rooms.rooms, rooms.gongs, [rooms.calls[number] for number in numbers])

    def check_missing(self, rooms, weave):
        told = self.assert_kept(missing_joins, rooms, weave)
        self.assertEqual(coming_weaves(self.with_joins(rooms, told)), [weave])
        steps = steps_of(rooms)
        every = [(word, one, other) for word in ("gong", "call") for one in steps for other in steps if one[0] != other[0]]
        every = [join for join in every if comes(self.with_joins(rooms, [join]), weave)]
        # One join less never does; of more than three that takes long.
        if 0 < len(told) <= 3:
            for joins in itertools.combinations(every, len(told) - 1):
                self.assertGreater(len(coming_weaves(self.with_joins(rooms, joins))), 1)

    def with_joins(self, rooms, joins):
        for word, one, other in joins:
            rooms = rooms.with_gong(one, other) if word == "gong" else rooms.with_call(one, other)
        return rooms

    def test_greatest(self):
        rooms = [(name, (("d",),) * 4) for name in "abc"]
        steps = [(name, number) for name in "abc" for number in range(1, 5)]
        calls = [(one, other) for one in steps for other in steps if one[0] != other[0] and one[1] + 1 < other[1]][:20]
        gongs = [(("a", 2), ("b", 2)), (("b", 3), ("c", 3))] * 10
        told = Rooms(rooms, gongs, calls)
        self.assert_soon(3, kept_calls, told)
        for step in steps:
            self.assert_soon(2, stamp_of, told, step)
        self.assert_soon(2, three_weaves, told, ("a", 1), ("b", 1))
        weave = three_weaves(told, ("a", 1), ("b", 1))[0]
        self.assert_soon(2, missing_joins, told, weave)

    def test_arguments_stay(self):
        before = picture(JOINED)
        kept_calls(JOINED)
        three_weaves(JOINED, C1, A3)
        self.assertEqual(picture(JOINED), before)


if __name__ == "__main__":
    unittest.main()
