"""Promises [60] to [62]: rooms, their joins and texts, circles, weaves."""

import itertools
import unittest

from curvebells.errors import InvalidRooms, InvalidText, NoName
from curvebells.halls import Hall
from curvebells.rooms import Rooms, broken_join, is_circle, is_weave, join_circle, rooms_of, some_weave
from curvebells.rows import ring_row, tale_of
from curvebells.sayings import Band
from tests.helpers import ANY_VALUES, BellCase, picture, source

A, B, C = ("a", (("d",), ("e", "f"))), ("b", (("f",),)), ("c", ())
JOINED = Rooms([A, B, C], [(("a", 2), ("b", 1))], [(("b", 1), ("a", 2)), (("a", 1), ("b", 1))])
TEXT = "room a d, e f\nroom b f\nroom c\ngong a 2 b 1\ncall b 1 a 2\ncall a 1 b 1"


def some_rooms(rng, most=3, joins=3):
    rooms = []
    for name in ("a", "b", "c")[:rng.randint(1, 3)]:
        tale = tuple(tuple(sorted(rng.sample("xyz", rng.randint(1, 2)))) for _ in range(rng.randint(0, most)))
        rooms.append((name, tale))
    steps = [(name, number) for name, tale in rooms for number in range(1, len(tale) + 1)]
    pairs = [pair for pair in itertools.permutations(steps, 2) if pair[0][0] != pair[1][0]]
    told = [rng.sample(pairs, min(len(pairs), rng.randint(0, joins))) for _ in range(2)]
    return Rooms(rooms, *told)


def all_weaves(rooms):
    """All weaves of the rooms without joins, by the words: level by level."""
    found = []

    def grow(done, levels):
        left = [at for at, (_, tale) in enumerate(rooms.rooms) if done[at] < len(tale)]
        if not left:
            found.append(tuple(levels))
        for many in range(1, len(left) + 1):
            for chosen in itertools.combinations(left, many):
                behind = [n + (at in chosen) for at, n in enumerate(done)]
                grow(behind, levels + [tuple((rooms.rooms[at][0], behind[at]) for at in chosen)])

    grow([0] * len(rooms.rooms), [])
    return found


def comes(rooms, weave):
    levels = {step: at for at, level in enumerate(weave) for step in level}
    return (all(levels[one] == levels[other] for one, other in rooms.gongs)
            and all(levels[one] < levels[other] for one, other in rooms.calls))


def leads(rooms, one, other):
    """"ahead", "with" or None, by the words of [61]."""
    if (one[0] == other[0] and one[1] < other[1]) or (one, other) in rooms.calls:
        return "ahead"
    return "with" if (one, other) in rooms.gongs or (other, one) in rooms.gongs else None


def all_circles(rooms, most):
    steps = [(name, number) for name, tale in rooms.rooms for number in range(1, len(tale) + 1)]
    for many in range(2, most + 1):
        for road in itertools.permutations(steps, many):
            told = [leads(rooms, one, other) for one, other in zip(road, road[1:] + road[:1])]
            if None not in told and "ahead" in told:
                yield road


class TestRooms(BellCase):

    def test_attributes(self):
        rooms, gongs, calls = [A, B], [(("a", 1), ("b", 1))], []
        one = Rooms(rooms, gongs, calls)
        rooms.append(None)
        gongs.clear()
        calls.append(None)
        self.assert_same((one.rooms, one.gongs, one.calls), ((A, B), ((("a", 1), ("b", 1)),), ()))
        bare = Rooms(rooms=(C,))
        self.assert_same((bare.rooms, bare.gongs, bare.calls), ((C,), (), ()))
        self.assert_same(Rooms((A, B), calls=((("a", 1), ("b", 1)),)).calls, ((("a", 1), ("b", 1)),))

    def test_equal(self):
        self.assertEqual(JOINED, Rooms(list(JOINED.rooms), list(JOINED.gongs), JOINED.calls))
        for other in (Rooms(JOINED.rooms, JOINED.gongs), Rooms(JOINED.rooms, (), JOINED.calls),
                      Rooms(JOINED.rooms[:2], JOINED.gongs, JOINED.calls), Rooms([B, A, C], JOINED.gongs, JOINED.calls),
                      Rooms(JOINED.rooms, JOINED.gongs, JOINED.calls[::-1])):
            self.assertFalse(JOINED == other)
            self.assertTrue(JOINED != other)
        for value in ANY_VALUES:
            self.assertIs(JOINED == value, False)

    def test_wrong_rooms(self):
        for rooms in (None, (), [], "a", [A, B, C, ("d", ())], [A, A], [["a", ()]], [("a",)], [("A", ())], [("a", [])],
                      [("a", ((),))], [("a", (("y", "x"),))], [("a", (("x",), ["y"]))], [("a", (), ())], [(1, ())], [None],
                      [A, None], [("a", "x")], {}):
            self.assert_error(InvalidRooms, {"at": 0}, Rooms, rooms, None, None)
        step, other = ("a", 1), ("b", 1)
        for joins in (None, 1, "ab", [None], [(step,)], [[step, other]], [(step, other, step)], [(step, ("a", 2))],
                      [(step, step)], [(step, ("b", 2))], [(step, ("b", 0))], [(step, ("d", 1))], [(step, ["b", 1])],
                      [(step, ("b", True))], [(step, ("b",))], [(step, None)], [(step, other), (other, ("a", 3))],
                      [(("c", 1), step)], [(step, (["b"], 1))]):
            self.assert_error(InvalidRooms, {"at": 1}, Rooms, [A, B, C], joins, None)
            self.assert_error(InvalidRooms, {"at": 2}, Rooms, [A, B, C], [], joins)
        for value in ANY_VALUES:
            self.assert_error(InvalidRooms, {"at": 0}, Rooms, value, value)
            if value not in ((), []):
                self.assert_error(InvalidRooms, {"at": 1}, Rooms, [A, B], value, value)
                self.assert_error(InvalidRooms, {"at": 2}, Rooms, [A, B], (), value)
            self.assert_error(InvalidRooms, {"at": 1}, Rooms, [A, B], [value])

    def test_steps(self):
        self.assert_same([JOINED.many_lots(name) for name in "abc"], [2, 1, 0])
        self.assert_same(JOINED.lot_of(("a", 2)), ("e", "f"))
        self.assert_same(JOINED.lot_of(step=("b", 1)), ("f",))
        rooms = Rooms([("a", (("x",), ("x", "y"), ("y",), ("x",)))])
        for bell, turn, number in (("x", 1, 1), ("x", 2, 2), ("x", 3, 4), ("y", 1, 2), ("y", 2, 3)):
            self.assert_same(rooms.step_of("a", bell, turn), ("a", number))
        self.assert_same(rooms.step_of(turn=2, name="a", bell="y"), ("a", 3))
        for told in (("a", "x", 4), ("a", "z", 1), ("b", "x", 1), ("a", "x", 0), ("a", "x", True), ("a", "x", -1),
                     ("a", None, 1), (None, "x", 1), ("a", "x", None), ([], [], [])):
            self.assert_error(NoName, {"name": told}, rooms.step_of, *told)
        for step in (("a", 3), ("c", 1), ("a", 0), ("a", True), ["a", 1], ("a",), ("a", 1, 1), ("d", 1), None, (["a"], 1)):
            self.assert_error(NoName, {"name": step}, JOINED.lot_of, step)
        for value in ANY_VALUES:
            if value != "a":
                self.assert_error(NoName, {"name": value}, JOINED.many_lots, value)
            self.assert_error(NoName, {"name": value}, JOINED.lot_of, value)
            self.assert_error(NoName, {"name": (value, value, value)}, JOINED.step_of, value, value, value)

    def test_more_joins(self):
        before = picture(JOINED)
        more = JOINED.with_gong(("a", 1), ("b", 1))
        self.assertEqual(more, Rooms(JOINED.rooms, JOINED.gongs + ((("a", 1), ("b", 1)),), JOINED.calls))
        more = JOINED.with_call(one=("b", 1), other=("a", 1))
        self.assertEqual(more, Rooms(JOINED.rooms, JOINED.gongs, JOINED.calls + ((("b", 1), ("a", 1)),)))
        self.assertEqual(JOINED.without_joins(), Rooms(JOINED.rooms))
        self.assertEqual(picture(JOINED), before)
        for one, other in ((("a", 1), ("a", 2)), (("a", 1), ("b", 2)), (None, ("a", 1)), (("a", 1), ["b", 1])):
            self.assert_error(InvalidRooms, {"at": 1}, JOINED.with_gong, one, other)
            self.assert_error(InvalidRooms, {"at": 2}, JOINED.with_call, one, other)
        for value in ANY_VALUES:
            self.assert_error(InvalidRooms, {"at": 1}, JOINED.with_gong, ("a", 1), value)
            self.assert_error(InvalidRooms, {"at": 2}, JOINED.with_call, value, ("a", 1))

    def test_no_length_and_not_iterable(self):
        with self.assertRaises(TypeError):
            iter(JOINED)
        with self.assertRaises(TypeError):
            len(JOINED)


class TestText(BellCase):

    def test_text(self):
        self.assert_same(JOINED.text(), TEXT)
        self.assert_same(Rooms([C]).text(), "room c")
        self.assertEqual(Rooms.read(TEXT), JOINED)
        self.assertEqual(Rooms.read(text="room c"), Rooms([C]))
        self.assertEqual(Rooms.read("room abcdefgh x\nroom b x\ncall abcdefgh 1 b 1\ncall b 1 abcdefgh 1").calls,
                         ((("abcdefgh", 1), ("b", 1)), (("b", 1), ("abcdefgh", 1))))
        self.assertEqual(Rooms.read("room room room\nroom gong call\ngong room 1 gong 1"),
                         Rooms([("room", (("room",),)), ("gong", (("call",),))], [(("room", 1), ("gong", 1))]))
        rng = source(190)
        for _ in range(40):
            rooms = some_rooms(rng)
            self.assertEqual(Rooms.read(rooms.text()), rooms)

    def test_wrong_texts(self):
        for value in ANY_VALUES:
            if isinstance(value, str):
                self.assert_error(InvalidText, {"at": 0}, Rooms.read, value)
            else:
                self.assert_error(InvalidText, {"at": -1}, Rooms.read, value)
        good = "room a d, e\nroom b f"
        for row in ("", "room", "room ", "room A", "room c ", "room c d,", "room c d,e", "room c d , e", "room c  d", "room c ,",
                    "room abcdefghi", "room c d1", " room c", "room c D", "rooms c", "gong a 1 b", "gong a 1 b 1 1",
                    "gong a 01 b 1", "gong a -1 b 1", "gong a 1 b x", "gong 1 a b 1", "gong a 10000 b 1", "gong a 1 b 10000", "gong a  1 b 1",
                    "gong a 1 b 1 ", "call a 1 B 1", "call a 1 b", "bell a 1 b 1", "call", "gong a +1 b 1", "call a -0 b 1",
                    "call a 1 b 00001", "gong a \u0661 b 1"):
            self.assert_error(InvalidText, {"at": 2}, Rooms.read, good + "\n" + row)
            self.assert_error(InvalidText, {"at": 2}, Rooms.read, good + "\n" + row + "\nnone")
        self.assert_error(InvalidText, {"at": 3}, Rooms.read, good + "\ngong a 1 b 1\nroom c")
        self.assert_error(InvalidText, {"at": 3}, Rooms.read, good + "\ncall a 1 b 1\nroom c")
        self.assert_error(InvalidText, {"at": 3}, Rooms.read, good + "\ncall a 1 b 1\ngong a 1 b 1")
        self.assert_error(InvalidText, {"at": 0}, Rooms.read, "")
        self.assert_error(InvalidText, {"at": 2}, Rooms.read, good + "\n")

    def test_wrong_by_what_they_tell(self):
        good = "room a d, e\nroom b f"
        for row, at in (("gong a 3 b 1", 1), ("gong a 0 b 1", 1), ("gong a 9999 b 1", 1), ("gong a 1 a 2", 1),
                        ("call a 1 c 1", 2), ("call b 2 a 1", 2), ("room a d", 0), ("room c e d", 0), ("room c d d", 0),
                        ("room c\nroom d", 0), ("gong a 1 c 1\ncall a 1 c 1", 1)):
            self.assert_error(InvalidRooms, {"at": at}, Rooms.read, good + "\n" + row)

    def test_bands(self):
        early = Hall.read("thing cat\nway run 0 1\nbell ding at cat 1 any\nbell dong at cat 2 any")
        later = Band(early, [(((-3, 2), 1), (0,))])
        rooms = rooms_of([("a", Band(early)), ("b", later)], [(("a", 1), ("b", 1))])
        tale = tale_of(ring_row(early, (0,)))
        self.assertEqual(rooms, Rooms([("a", tale), ("b", tale)], [(("a", 1), ("b", 1))]))
        self.assertEqual(rooms_of(bands=(("c", later),), gongs=(), calls=()), Rooms([("c", tale)]))
        for bands in (None, [later], [("a",)], [("a", early)], [["a", later]], [("a", later, 1)], [("A", later)], [("a", tale)],
                      [], [("a", later), ("a", later)], [(name, later) for name in "abcd"]):
            self.assert_error(InvalidRooms, {"at": 0}, rooms_of, bands, None, None)
        for value in ANY_VALUES:
            self.assert_error(InvalidRooms, {"at": 0}, rooms_of, value, value)
            self.assert_error(InvalidRooms, {"at": 0}, rooms_of, [("a", value)])
        self.assert_error(InvalidRooms, {"at": 1}, rooms_of, [("a", later)], None, None)
        self.assert_error(InvalidRooms, {"at": 2}, rooms_of, [("a", later), ("b", later)], (), [(("a", 1), ("b", 3))])


class TestCircles(BellCase):

    def test_by_hand(self):
        one = Rooms([A, B], [(("a", 1), ("b", 1))], [(("a", 1), ("b", 1))])
        self.assertEqual(len(join_circle(one)), 2)
        for circle in ((("a", 1), ("b", 1)), (("b", 1), ("a", 1))):
            self.assert_same(is_circle(one, circle), True)
        # Each step leads to the next one, but none may come twice.
        self.assert_same(is_circle(one, (("a", 1), ("b", 1), ("a", 1), ("b", 1))), False)
        two = Rooms([A, ("b", (("x",), ("y",)))], [], [(("a", 2), ("b", 1)), (("b", 2), ("a", 1))])
        self.assert_same(is_circle(two, (("a", 2), ("b", 1), ("b", 2), ("a", 1))), True)
        self.assert_same(is_circle(rooms=two, value=(("a", 1), ("a", 2), ("b", 1), ("b", 2))), True)
        self.assertEqual(len(join_circle(two)), 4)
        for wrong in ((("a", 2), ("a", 1), ("b", 1), ("b", 2)), (("a", 1), ("a", 2)), (("a", 1),), (), None,
                      [("a", 2), ("b", 1), ("b", 2), ("a", 1)], (("a", 2), ("b", 1), ("b", 2), ("a", 1), ("a", 2)),
                      (("a", 2), ("b", 1), ("b", 2), ["a", 1]), (("a", 2), ("b", 1), ("b", 3), ("a", 1))):
            self.assert_same(is_circle(two, wrong), False)
        for value in ANY_VALUES:
            self.assert_same(is_circle(two, value), False)

    def test_gongs_alone_make_none(self):
        rooms = Rooms([("a", (("x",),)), ("b", (("x",),)), ("c", (("x",),))],
                      [(("a", 1), ("b", 1)), (("b", 1), ("c", 1)), (("c", 1), ("a", 1))])
        self.assertIsNone(join_circle(rooms))
        self.assert_same(is_circle(rooms, (("a", 1), ("b", 1), ("c", 1))), False)
        self.assert_same(some_weave(rooms), ((("a", 1), ("b", 1), ("c", 1)),))

    def test_by_the_words(self):
        rng = source(191)
        for _ in range(80):
            rooms = some_rooms(rng, 2)
            circles = list(all_circles(rooms, 5))
            for circle in rng.sample(circles, min(5, len(circles))):
                self.assert_same(is_circle(rooms, circle), True)
            told = self.assert_kept(join_circle, rooms)
            self.assertEqual(told is None, any(comes(rooms, weave) for weave in all_weaves(rooms)))
            if told is not None:
                self.assert_same(is_circle(rooms, told), True)
                self.assertEqual(len(told), len(next(all_circles(rooms, 6))))
            steps = [(name, number) for name, tale in rooms.rooms for number in range(1, len(tale) + 1)]
            for _ in range(10):
                road = tuple(rng.sample(steps, min(len(steps), rng.randint(1, 4))))
                if len(road) < 5:
                    self.assert_same(is_circle(rooms, road), road in circles)


class TestWeaves(BellCase):

    def test_example(self):
        rooms = Rooms([("a", (("d",), ("e",))), ("b", (("f",),))], (), [(("a", 1), ("b", 1))])
        self.assert_same(some_weave(rooms), ((("a", 1),), (("a", 2), ("b", 1))))
        self.assert_same(some_weave(Rooms([C])), ())
        self.assert_same(is_weave(Rooms([C]), ()), True)
        self.assertIsNone(broken_join(Rooms([C]), ()))

    def test_by_the_words(self):
        rng = source(192)
        for _ in range(50):
            rooms = some_rooms(rng, 2)
            good = []
            for weave in all_weaves(rooms):
                broken = [("gong", at) for at, join in enumerate(rooms.gongs) if not comes(Rooms(rooms.rooms, [join]), weave)]
                broken += [("call", at) for at, join in enumerate(rooms.calls)
                           if not comes(Rooms(rooms.rooms, (), [join]), weave)]
                self.assert_same(broken_join(rooms, weave), broken[0] if broken else None)
                self.assert_same(is_weave(rooms, weave), not broken)
                if not broken:
                    good.append({step: at for at, level in enumerate(weave) for step in level})
            told = self.assert_kept(some_weave, rooms)
            if not good:
                self.assertIsNone(told)
                continue
            self.assert_same(is_weave(rooms, told), True)
            for at, level in enumerate(told):
                for step in level:
                    self.assertEqual(at, min(levels[step] for levels in good))

    def test_broken(self):
        weave = ((("a", 1),), (("b", 1),), (("a", 2),))
        self.assert_same(broken_join(JOINED, weave), ("gong", 0))
        self.assert_same(broken_join(rooms=Rooms(JOINED.rooms, (), JOINED.calls), weave=weave), None)
        weave = ((("a", 1), ("b", 1)), (("a", 2),))
        self.assert_same(broken_join(Rooms(JOINED.rooms, (), JOINED.calls), weave), ("call", 1))

    def test_no_weaves(self):
        rooms = Rooms([A, B])
        good = ((("a", 1), ("b", 1)), (("a", 2),))
        self.assert_same(is_weave(rooms, good), True)
        for wrong in (list(good), (list(good[0]), good[1]), ((("b", 1), ("a", 1)), good[1]), good[:1], good[1:], good + ((),),
                      ((),) + good, good + good[1:], ((("a", 2), ("b", 1)), (("a", 1),)), (good[0], (("a", 2), ("b", 2))),
                      (good[0], (["a", 2],)), (good[0], (("a", True),)), ((("a", 1), ("a", 2)), (("b", 1),)),
                      ((("a", 1), ("b", 1)), (("c", 1),), (("a", 2),)), (), None, (None,), ((("a", 1),), good[0], good[1]),
                      ((("a", 1), ("a", 1), ("b", 1)), (("a", 2),))):
            self.assert_same(is_weave(rooms, wrong), False)
        for value in ANY_VALUES:
            self.assert_same(is_weave(rooms=rooms, value=value), False)

    def test_a_halls_own_tale_comes(self):
        hall = Hall.read("thing cat\nway run 0 1\nbell x at cat 1 any\nbell y at cat 1 any\nbell z at cat 2 any")
        rooms = Rooms([("a", (("x",), ("z",))), ("b", (("y",),))], [(("a", 1), ("b", 1))])
        self.assert_same(tale_of(ring_row(hall, (0,))), (("x", "y"), ("z",)))
        self.assert_same(is_weave(rooms, ((("a", 1), ("b", 1)), (("a", 2),))), True)

    def test_greatest(self):
        rng = source(193)
        tales = [tuple(("w", "x", "y", "z") for _ in range(4)) for _ in range(3)]
        rooms = Rooms(list(zip("abc", tales)))
        weave = some_weave(rooms)
        levels = {step: at for at, level in enumerate(weave) for step in level}
        steps = list(levels)
        pairs = [pair for pair in itertools.permutations(steps, 2) if pair[0][0] != pair[1][0]]
        gongs = rng.sample([pair for pair in pairs if levels[pair[0]] == levels[pair[1]]], 20)
        calls = rng.sample([pair for pair in pairs if levels[pair[0]] < levels[pair[1]]], 20)
        rooms = Rooms(rooms.rooms, gongs, calls)
        self.assertIsNone(self.assert_soon(2, join_circle, rooms))
        self.assert_same(self.assert_soon(2, some_weave, rooms), weave)
        turned = rooms.with_call(("a", 4), ("b", 1))
        circle = self.assert_soon(2, join_circle, turned)
        self.assert_same(is_circle(turned, circle), True)
        self.assertIsNone(some_weave(turned))


if __name__ == "__main__":
    unittest.main()
