"""Promises [23] to [25] and [27], as far as module halls has them."""

import unittest

from curvebells.curves import curve_minus, curve_plus
from curvebells.errors import InvalidCurve, InvalidHall, InvalidSize, InvalidText, NoName
from curvebells.halls import (
    Hall, bell_number, faces_of, followed_curves, hums_of, joined_halls, mode_fits, rewound_hall, scaled_hall,
    thing_number, way_number, with_bells,
)
from curvebells.places import moments_of, place_order, place_sides
from tests.helpers import ANY_VALUES, BellCase, picture, some_curve, source, worth

CAT = ("cat", (("run", (0, 2, -1)), ("sit", ())))
DOG = ("dog", (("walk", (0, 1)),))
EEL = ("eel", (("swim", (5,)), ("run", (-1, 0, 0, 0, 3)), ("sit", (7, -1))))
BELLS = (
    ("a", "meet", ("cat", "dog"), "any"), ("b", "at", ("eel", -2), "up"), ("c", "mid", ("dog", "cat", "eel"), "down"),
    ("d", "still", ("eel",), "touch"), ("cat", "near", ("eel", "cat", 3), "any"),
)
HALL = Hall([CAT, DOG, EEL], BELLS)
TEXT = """thing cat
way run 0 2 -1
way sit 0
thing dog
way walk 0 1
thing eel
way swim 5
way run -1 0 0 0 3
way sit 7 -1
bell a meet cat dog any
bell b at eel -2 up
bell c mid dog cat eel down
bell d still eel touch
bell cat near eel cat 3 any"""
EXAMPLE = ("thing cat\nway run 0 0 1\nthing dog\nway walk 0 1\nbell ding meet cat dog any\nbell dong at cat 2 any")


class TestHall(BellCase):

    def test_attributes(self):
        self.assert_same(HALL.things, (CAT, DOG, EEL))
        self.assert_same(HALL.bells, BELLS)
        self.assert_same(HALL.first, (0, 0, 0))
        hall = Hall(bells=[], things=(DOG,))
        self.assert_same((hall.things, hall.bells, hall.first), ((DOG,), (), (0,)))

    def test_later_changes(self):
        things, bells = [CAT, DOG], [("a", "still", ("cat",), "any")]
        hall = Hall(things, bells)
        things.reverse()
        bells.append(None)
        self.assert_same((hall.things, hall.bells), ((CAT, DOG), (("a", "still", ("cat",), "any"),)))

    def test_no_length_and_not_iterable(self):
        with self.assertRaises(TypeError):
            iter(HALL)
        with self.assertRaises(TypeError):
            len(HALL)

    def test_no_things(self):
        for value in (None, 3, True, "cat", HALL, [], (), ""):
            self.assert_error(InvalidHall, {"at": ("things", -1)}, Hall, value, None)

    def test_wrong_things(self):
        way = ("run", (0, 1))
        for wrong in (None, "cat", ["cat", (way,)], ("cat", (way,), ()), ("cat",), ("Cat", (way,)), ("", (way,)),
                      ("abcdefghi", (way,)), (1, (way,)), ("cat", [way]), ("cat", ()), ("cat", way), ("cat", None),
                      ("cat", (way, way)), ("cat", (way, ("sit", ()), ("run", (5,)))),
                      ("cat", (("a", ()), ("b", ()), ("c", ()), ("d", ()))), ("cat", (["run", (0, 1)],)),
                      ("cat", (("run", [0, 1]),)), ("cat", (("run", (1, 0)),)), ("cat", (("run", (True,)),)),
                      ("cat", (("run", (0, 1), 1),)), ("cat", (("Run", (0, 1)),)), ("cat", (("run",),)),
                      ("cat", (way, None)), ("cat", ((1, ()),)), ("cat", "run"), ("c t", (way,))):
            self.assert_error(InvalidHall, {"at": ("things", 0)}, Hall, [wrong], [None])
            self.assert_error(InvalidHall, {"at": ("things", 1)}, Hall, (DOG, wrong, None), ())
        self.assert_error(InvalidHall, {"at": ("things", 2)}, Hall, [DOG, CAT, ("dog", (way,)), None], [])

    def test_no_bells(self):
        for value in (None, 3, True, "", "ding", HALL):
            self.assert_error(InvalidHall, {"at": ("bells", -1)}, Hall, [CAT], value)

    def test_wrong_bells(self):
        for wrong in (
                None, "ding", ["a", "still", ("cat",), "any"], ("a", "still", ("cat",)), ("A", "still", ("cat",), "any"),
                ("a", "Still", ("cat",), "any"), ("a", "still", ["cat"], "any"), ("a", "still", ("cat",), "ups"),
                ("a", "still", ("cat",), None), ("a", "still", ("cat",), ["any"]), ("a", "still", ("cat", "dog"), "any"),
                ("a", "still", (), "any"), ("a", "still", ("owl",), "any"), ("a", "still", (0,), "any"),
                ("a", "still", "cat", "any"), ("a", "still", ("cat",), "any", 1), (1, "still", ("cat",), "any"),
                ("a", ["still"], ("cat",), "any"), ("a", None, ("cat",), "any"), ("a", "still", None, "any"),
                ("a", "meet", ("cat", "cat"), "any"), ("a", "meet", ("cat", "owl"), "any"),
                ("a", "meet", ("cat", 1), "any"), ("a", "meet", ("cat",), "any"), ("a", "meet", ("cat", []), "any"),
                ("a", "meet", ("cat", "dog", "eel"), "any"), ("a", "at", ("cat", "dog"), "any"),
                ("a", "at", ("cat", True), "any"), ("a", "at", ("cat", None), "any"), ("a", "at", (1, "cat"), "any"),
                ("a", "at", ("cat", []), "any"), ("a", "at", ("owl", 1), "any"), ("a", "at", ("cat",), "any"),
                ("a", "at", ("cat", 1, 2), "any"), ("a", "mid", ("cat", "dog"), "any"),
                ("a", "mid", ("cat", "dog", "cat"), "any"), ("a", "mid", ("cat", "dog", "owl"), "any"),
                ("a", "mid", ("dog", "dog", "cat"), "any"), ("a", "mid", ("cat", "dog", "dog"), "any"),
                ("a", "near", ("cat", "dog"), "any"), ("a", "near", ("cat", "dog", 0), "any"),
                ("a", "near", ("cat", "dog", -1), "any"), ("a", "near", ("cat", "dog", True), "any"),
                ("a", "near", ("cat", "cat", 1), "any"), ("a", "near", ("cat", "dog", "eel"), "any"),
                ("a", "near", ("cat", 1, 1), "any"), ("a", "near", ("cat", "dog", [1]), "any")):
            self.assert_error(InvalidHall, {"at": ("bells", 0)}, Hall, [CAT, DOG, EEL], [wrong])
            self.assert_error(InvalidHall, {"at": ("bells", 2)}, Hall, [CAT, DOG, EEL], BELLS[:2] + (wrong, None))
        again = ("a", "at", ("eel", 0), "up")
        self.assert_error(InvalidHall, {"at": ("bells", 5)}, Hall, HALL.things, BELLS + (again, None))

    def test_any_value(self):
        for value in ANY_VALUES:
            at = 0 if isinstance(value, (list, tuple)) and value else -1
            self.assert_error(InvalidHall, {"at": ("things", at)}, Hall, value, value)
            if value not in ((), []):
                self.assert_error(InvalidHall, {"at": ("bells", at)}, Hall, [CAT], value)
            self.assert_error(InvalidHall, {"at": ("things", 1)}, Hall, [CAT, ("a", value)], ())
            self.assert_error(InvalidHall, {"at": ("bells", 0)}, Hall, [CAT], [("a", "at", ("cat", value), value)])
            self.assert_error(InvalidHall, {"at": ("bells", 0)}, Hall, [CAT], [("a", value, ("cat", value), "any")])
            self.assert_error(InvalidHall, {"at": ("bells", 0)}, Hall, [CAT, DOG], [("a", "mid", value, "any")])


class TestText(BellCase):

    def test_text(self):
        self.assert_same(HALL.text(), TEXT)
        self.assert_same(Hall([DOG], ()).text(), "thing dog\nway walk 0 1")

    def test_read(self):
        for hall in (Hall.read(TEXT), Hall.read(text=TEXT), HALL.read(TEXT)):
            self.assertEqual(picture(hall), picture(HALL))
        hall = Hall.read(EXAMPLE)
        self.assert_same(hall.things, (("cat", (("run", (0, 0, 1)),)), ("dog", (("walk", (0, 1)),))))
        self.assert_same(hall.bells, (("ding", "meet", ("cat", "dog"), "any"), ("dong", "at", ("cat", 2), "any")))
        self.assert_same(hall.text(), EXAMPLE)
        words = Hall.read("thing thing\nway way 999999999\nbell bell at thing -999999999 any")
        self.assert_same(words.things, (("thing", (("way", (999999999,)),)),))
        self.assert_same(words.bells, (("bell", "at", ("thing", -999999999), "any"),))

    def test_no_text(self):
        for value in ANY_VALUES:
            if not isinstance(value, str):
                self.assert_error(InvalidText, {"at": -1}, Hall.read, value)

    def test_wrong_rows(self):
        for row in ("", " ", "thing", "thing ", "thing  cat", "thing cat dog", " thing cat", "thing cat ", "Thing cat",
                    "thing Cat", "thing abcdefghi", "thing 1", "way", "way sit", "way sit ", "way sit 1 0", "way sit 0 0",
                    "way sit 01", "way sit 1.5", "way sit +1", "way sit -0", "way sit 1  1", "way sit 1 ", "way 1 1",
                    "way sit 1234567890", "way sit x", "way sit\t1", "ways sit 1", "bell a still cat", "bell a still any",
                    "bell a still cat dog any", "bell a still cat Any", "bell a rings cat any", "bell a meet cat any",
                    "bell a meet cat 1 any", "bell a at cat dog any", "bell a at cat 01 any", "bell a at 1 cat any",
                    "bell a at cat  1 any", "bell a at cat 1 any ", "bell  a at cat 1 any", "bell a mid cat dog any",
                    "bell a near cat dog any", "bell a near cat dog 1.0 any", "bell a near cat dog 1 2 any",
                    "bell A still cat any", "bell abcdefghi still cat any", "bell a still Cat any", "bell", "bell a",
                    "bell a still", "bell a at cat 1234567890 any", "bells a still cat any", "cat"):
            self.assert_error(InvalidText, {"at": 0}, Hall.read, row)
            self.assert_error(InvalidText, {"at": 2}, Hall.read, "thing cat\nway run 1\n" + row + "\nx")
        self.assert_error(InvalidText, {"at": 6}, Hall.read, EXAMPLE + "\n")

    def test_rows_out_of_place(self):
        self.assert_error(InvalidText, {"at": 0}, Hall.read, "way run 1\nthing cat")
        self.assert_error(InvalidText, {"at": 0}, Hall.read, "way run 1\nx")
        self.assert_error(InvalidText, {"at": 6}, Hall.read, EXAMPLE + "\nthing eel")
        self.assert_error(InvalidText, {"at": 6}, Hall.read, EXAMPLE + "\nway sit 1\nx")
        self.assert_error(InvalidText, {"at": 1}, Hall.read, "bell a still cat any\nthing cat\nway run 1")
        self.assert_error(InvalidText, {"at": 3}, Hall.read, "thing cat\nway run 1\nbell a still cat any\nway sit 1")

    def test_then_all_else(self):
        for text, at in (
                ("bell a still cat any", ("things", -1)), ("thing cat", ("things", 0)),
                ("thing cat\nthing dog\nway run 1", ("things", 0)), ("thing cat\nway run 1\nthing dog", ("things", 1)),
                ("thing cat\nway run 1\nthing cat\nway run 1", ("things", 1)),
                ("thing cat\nway run 1\nway run 2", ("things", 0)),
                ("thing cat\nway a 1\nway b 1\nway c 1\nway d 1", ("things", 0)),
                ("thing cat\nway run 1\nbell a still dog any", ("bells", 0)),
                (EXAMPLE + "\nbell ding still cat any", ("bells", 2)),
                (EXAMPLE + "\nbell x meet cat cat any", ("bells", 2)),
                (EXAMPLE + "\nbell x near cat dog 0 any", ("bells", 2)),
                (EXAMPLE + "\nbell x near cat dog -1 any\nbell y near cat dog 0 any", ("bells", 2)),
                (EXAMPLE + "\nbell x mid cat dog cat any", ("bells", 2))):
            self.assert_error(InvalidHall, {"at": at}, Hall.read, text)

    def test_all_halls(self):
        rng = source(61)
        for _ in range(60):
            hall = some_hall(rng)
            self.assertEqual(picture(Hall.read(hall.text())), picture(hall))


def some_hall(rng, degree=4):
    """A hall with up to three things and bells of all words and modes."""
    names = rng.sample(["cat", "dog", "eel", "fox"], rng.randint(1, 3))
    things = []
    for name in names:
        ways = [(way, some_curve(rng, rng.randint(0, degree), 9) if rng.random() < 0.9 else ())
                for way in rng.sample(["run", "sit", "hop", "fly"], rng.randint(1, 3))]
        things.append((name, tuple(ways)))
    bells = []
    for at in range(rng.randint(0, 4)):
        word, many = rng.choice([("still", 1), ("at", 1), ("meet", 2), ("near", 2), ("mid", 3)])
        if many <= len(names):
            more = {"at": (rng.randint(-9, 9),), "near": (rng.randint(1, 9),)}.get(word, ())
            mode = rng.choice(["any", "up", "down", "touch"])
            bells.append(("abcd"[at], word, tuple(rng.sample(names, many)) + more, mode))
    return Hall(things, bells)


def all_ways(hall):
    ways = [()]
    for _, own in hall.things:
        ways = [one + (number,) for one in ways for number in range(len(own))]
    return ways


class TestNumbers(BellCase):

    def test_by_hand(self):
        self.assert_same([thing_number(HALL, name) for name in ("cat", "dog", "eel")], [0, 1, 2])
        self.assert_same([bell_number(HALL, name) for name in ("a", "b", "c", "d", "cat")], [0, 1, 2, 3, 4])
        self.assert_same(way_number(HALL, "cat", "sit"), 1)
        self.assert_same(way_number(hall=HALL, thing="eel", way="sit"), 2)
        self.assert_same(way_number(HALL, "eel", "run"), 1)
        self.assert_same(thing_number(hall=HALL, name="dog"), 1)
        self.assert_same(bell_number(hall=HALL, name="cat"), 4)

    def test_no_names(self):
        for value in [one for one in ANY_VALUES if one != "cat"] + ["a b", "run", "Cat", "cats", ("cat",), "ca"]:
            self.assert_error(NoName, {"name": value}, thing_number, HALL, value)
            self.assert_error(NoName, {"name": value}, way_number, HALL, value, "run")
            self.assert_error(NoName, {"name": value}, way_number, HALL, value, 7)
            self.assert_error(NoName, {"name": value}, way_number, HALL, "dog", value)
            if value != "a":
                self.assert_error(NoName, {"name": value}, bell_number, HALL, value)
        self.assert_error(NoName, {"name": "dog"}, bell_number, HALL, "dog")
        self.assert_error(NoName, {"name": "walk"}, way_number, HALL, "cat", "walk")


class TestFaces(BellCase):

    def test_followed(self):
        self.assert_same(followed_curves(HALL, (0, 0, 0)), ((0, 2, -1), (0, 1), (5,)))
        self.assert_same(followed_curves(hall=HALL, ways=(1, 0, 2)), ((), (0, 1), (7, -1)))

    def test_faces_by_hand(self):
        self.assert_same(faces_of(HALL, (0, 0, 0), 0), ((0, 1, -1),))
        self.assert_same(faces_of(HALL, (0, 0, 1), 1), ((1, 0, 0, 0, 3),))
        self.assert_same(faces_of(HALL, (0, 0, 0), 2), ((5, -3, 2),))
        self.assert_same(faces_of(HALL, (0, 0, 2), 3), ((-1,),))
        self.assert_same(faces_of(HALL, (0, 0, 0), 3), ((),))
        self.assert_same(faces_of(HALL, (1, 0, 0), 4), ((2,), (8,)))
        self.assert_same(faces_of(hall=HALL, ways=(0, 0, 2), number=4), ((4, -3, 1), (10, -3, 1)))

    def test_hums(self):
        hall = Hall([("a", (("x", (3,)), ("y", (0, 1)))), ("b", (("x", (3,)), ("y", (0, 2)))), ("c", (("x", (3,)),))],
                    [("z", "meet", ("a", "b"), "any"), ("y", "at", ("a", 3), "any"), ("x", "still", ("a",), "up"),
                     ("w", "near", ("a", "b", 1), "any"), ("d", "mid", ("a", "b", "c"), "any")])
        self.assert_same(hums_of(hall, (0, 0, 0)), ("d", "x", "y", "z"))
        self.assert_same(hums_of(hall=hall, ways=(1, 0, 0)), ())
        self.assert_same(hums_of(hall, (0, 1, 0)), ("x", "y"))
        self.assert_same(hums_of(Hall([DOG], []), (0,)), ())
        two = Hall([("a", (("x", (5, 1)),)), ("b", (("x", (2, 1)), ("y", (8, 1))))],
                   [("w", "near", ("a", "b", 3), "any")])
        self.assert_same(faces_of(two, (0, 0), 0), ((), (6,)))
        self.assert_same(hums_of(two, (0, 0)), ("w",))
        self.assert_same(hums_of(two, (0, 1)), ("w",))

    def test_by_the_words(self):
        rng = source(62)
        for _ in range(60):
            hall = some_hall(rng)
            for ways in all_ways(hall):
                curves = dict(zip([name for name, _ in hall.things], followed_curves(hall, ways)))
                for number, (name, word, told, _) in enumerate(hall.bells):
                    faces = faces_of(hall, ways, number)
                    self.assertEqual(name in hums_of(hall, ways), () in faces)
                    for at in (-2, 0, 1, 3):
                        here = {thing: worth(f, at) for thing, f in curves.items()}
                        wanted = {
                            "still": lambda: (sum(k * a * at ** (k - 1) for k, a in enumerate(curves[told[0]]) if k),),
                            "at": lambda: (here[told[0]] - told[1],),
                            "meet": lambda: (here[told[0]] - here[told[1]],),
                            "mid": lambda: (here[told[0]] + here[told[2]] - 2 * here[told[1]],),
                            "near": lambda: (here[told[0]] - here[told[1]] - told[2],
                                             here[told[0]] - here[told[1]] + told[2]),
                        }[word]()
                        self.assertEqual(tuple(worth(f, at) for f in faces), wanted)

    def test_no_ways(self):
        for ways in ((0, 0), (0, 0, 0, 0), [0, 0, 0], (2, 0, 0), (0, 1, 0), (0, 0, 3), (0, -1, 0), (0, False, 0),
                     (True, 0, 0), None, 0, (), "", (0, 0, None), ((0, 0, 0),), (0, 0, "0")):
            self.assert_error(InvalidHall, {"at": "ways"}, followed_curves, HALL, ways)
            self.assert_error(InvalidHall, {"at": "ways"}, faces_of, HALL, ways, None)
            self.assert_error(InvalidHall, {"at": "ways"}, hums_of, HALL, ways)
            self.assert_error(InvalidHall, {"at": "ways"}, hums_of, Hall(HALL.things, ()), ways)
        for value in ANY_VALUES:
            for call in (followed_curves, hums_of):
                self.assert_error(InvalidHall, {"at": "ways"}, call, HALL, value)
            self.assert_error(InvalidHall, {"at": "ways"}, faces_of, HALL, value, 0)

    def test_no_number(self):
        for number in (5, -1, True, False, None, "a", (0,), 10 ** 9):
            self.assert_error(InvalidSize, {"word": "number"}, faces_of, HALL, (0, 0, 0), number)
        for value in ANY_VALUES:
            if value not in (0, 1, 2) or isinstance(value, bool):
                self.assert_error(InvalidSize, {"word": "number"}, faces_of, HALL, (0, 0, 0), value)

    def test_mode_fits(self):
        for mode, fitting in (("any", [(-1, -1), (-1, 1), (1, -1), (1, 1)]), ("up", [(-1, 1)]), ("down", [(1, -1)]),
                              ("touch", [(-1, -1), (1, 1)])):
            for ahead in (-1, 1):
                for behind in (-1, 1):
                    self.assert_same(mode_fits(mode, ahead, behind), (ahead, behind) in fitting)
        self.assertIs(mode_fits(mode="up", ahead=-1, behind=1), True)


class TestOtherHalls(BellCase):

    def test_joined(self):
        one, other = Hall([CAT], [("a", "still", ("cat",), "any")]), Hall([DOG], [("b", "at", ("dog", 1), "up")])
        joined = self.assert_kept(joined_halls, one, other)
        self.assert_same(joined.things, (CAT, DOG))
        self.assert_same(joined.bells, (("a", "still", ("cat",), "any"), ("b", "at", ("dog", 1), "up")))
        self.assert_same(joined.first, (0, 0))
        self.assertEqual(picture(joined_halls(other=other, one=one)), picture(joined))
        self.assert_error(InvalidHall, {"at": ("things", 1)}, joined_halls, one, Hall([CAT, DOG], []))
        self.assert_error(InvalidHall, {"at": ("things", 2)}, joined_halls, Hall([CAT, EEL], []), one)
        self.assert_error(InvalidHall, {"at": ("bells", 1)}, joined_halls, one,
                          Hall([DOG], [("a", "at", ("dog", 1), "up")]))

    def test_with_bells(self):
        hall = with_bells(HALL, [("z", "still", ("dog",), "any")])
        self.assert_same(hall.things, HALL.things)
        self.assert_same(hall.bells, (("z", "still", ("dog",), "any"),))
        self.assert_same(with_bells(bells=(), hall=HALL).bells, ())
        self.assert_error(InvalidHall, {"at": ("bells", -1)}, with_bells, HALL, None)
        self.assert_error(InvalidHall, {"at": ("bells", 1)}, with_bells, HALL,
                          [BELLS[0], ("z", "still", ("owl",), "any")])
        self.assert_same(HALL.bells, BELLS)

    def test_rewound(self):
        hall = self.assert_kept(rewound_hall, HALL, (0, 1, 1))
        self.assert_same(hall.bells, BELLS)
        self.assert_same(hall.things, (("cat", (("run", (0, 2, 1, -2, -1)), ("sit", ()))),
                                       ("dog", (("walk", (0, 1, 1)),)),
                                       ("eel", (("swim", (5,)), ("run", (-1, 0, 0, 0, 3, 12, 18, 12, 3)),
                                                ("sit", (7, -1, -1))))))
        self.assertEqual(picture(rewound_hall(clock=(0, 1), hall=HALL)), picture(HALL))
        for clock in ((0, 0, 1), (0, 5), (0, 0, 0, 2), (0, 1, 0, 1), (0, 1, -1, 1), (0, 2, 1)):
            self.assertIsInstance(rewound_hall(HALL, clock), Hall)

    def test_no_clocks(self):
        for clock in ((), (1,), (1, 1), (-1, 1), (0, -1), (0, 0, -1), [0, 1], (0, True), (0, 1, 0), None, 3, "0 1",
                      (0, 1, -1), (0, -1, 1), (0, 6, -9, 4), (0, 3, -3, 2, -1)):
            self.assert_error(InvalidCurve, {"at": 0}, rewound_hall, HALL, clock)
        # The slope is 3 (1 - t) (1 - t): not above 0 at all times.
        self.assert_error(InvalidCurve, {"at": 0}, rewound_hall, HALL, (0, 3, -3, 1))
        for clock in ((0, 4, -3, 1), (0, 0, 0, 1), (0, 1, 3, 3, 1)):
            self.assertIsInstance(rewound_hall(HALL, clock), Hall)
        for value in ANY_VALUES:
            if value == (0, 2):
                self.assertIsInstance(rewound_hall(HALL, value), Hall)
            else:
                self.assert_error(InvalidCurve, {"at": 0}, rewound_hall, HALL, value)

    def test_scaled(self):
        hall = self.assert_kept(scaled_hall, HALL, 2, -3)
        self.assert_same(hall.things, (("cat", (("run", (-3, 4, -2)), ("sit", (-3,)))),
                                       ("dog", (("walk", (-3, 2)),)),
                                       ("eel", (("swim", (7,)), ("run", (-5, 0, 0, 0, 6)), ("sit", (11, -2))))))
        self.assert_same(hall.bells, (
            BELLS[0], ("b", "at", ("eel", -7), "up"), BELLS[2], BELLS[3], ("cat", "near", ("eel", "cat", 6), "any")))
        self.assertEqual(picture(scaled_hall(b=0, hall=HALL, a=1)), picture(HALL))

    def test_scaled_by_a_minus(self):
        things = [("a", (("x", (5, -1)),)), ("b", (("x", (0, 1, 2)),)), ("c", (("x", (5,)),))]
        told = {"meet": ("a", "b"), "at": ("b", 2), "mid": ("a", "b", "c"), "still": ("b",), "near": ("a", "b", 3)}
        other = {"any": "any", "touch": "touch", "up": "down", "down": "up"}
        for mode in other:
            hall = Hall(things, [(word, word, own, mode) for word, own in told.items()])
            bells = scaled_hall(hall, -3, 5).bells
            self.assert_same([bell[3] for bell in bells], [other[mode]] * 4 + [mode])
            self.assert_same([bell[2] for bell in bells],
                             [("a", "b"), ("b", -1), ("a", "b", "c"), ("b",), ("a", "b", 9)])
        self.assert_same(scaled_hall(Hall(things, []), -1, 5).things,
                         (("a", (("x", (0, 1)),)), ("b", (("x", (5, -1, -2)),)), ("c", (("x", ()),))))

    def test_scaled_sizes(self):
        for a in (0, True, None, "1", (1, 1), [1]):
            self.assert_error(InvalidSize, {"word": "a"}, scaled_hall, HALL, a, None)
        for b in (True, False, None, "1", (0, 1), [1]):
            self.assert_error(InvalidSize, {"word": "b"}, scaled_hall, HALL, 1, b)
        for value in ANY_VALUES:
            if not isinstance(value, int) or isinstance(value, bool) or value == 0:
                self.assert_error(InvalidSize, {"word": "a"}, scaled_hall, HALL, value, value)
            if not isinstance(value, int) or isinstance(value, bool):
                self.assert_error(InvalidSize, {"word": "b"}, scaled_hall, HALL, -1, value)

    def rings(self, hall):
        """(name, moment) for all that rings by the first ways, bells in their order."""
        found = []
        for number, (name, _, _, mode) in enumerate(hall.bells):
            faces = faces_of(hall, hall.first, number)
            for moment in [] if () in faces else [one for face in faces for one in moments_of(face)]:
                ahead, behind = 1, 1
                for sides in [place_sides(face, moment) for face in faces]:
                    ahead, behind = ahead * sides[0], behind * sides[1]
                if mode_fits(mode, ahead, behind):
                    found.append((name, moment))
        return found

    def test_scaled_halls_ring_at_the_same_moments(self):
        rng = source(63)
        for _ in range(40):
            hall = some_hall(rng)
            scaled = scaled_hall(hall, rng.choice((-5, -2, -1, 1, 3)), rng.randint(-99, 99))
            one, other = self.rings(hall), self.rings(scaled)
            self.assertEqual(len(one), len(other))
            for name, moment in one:
                self.assertEqual(len([1 for same, here in other if same == name and place_order(here, moment) == 0]), 1)

    def test_rewound_halls_ring_in_the_same_order(self):
        rng = source(64)
        for _ in range(30):
            hall = some_hall(rng, 2)
            rewound = rewound_hall(hall, rng.choice(((0, 1, 1), (0, 0, 2), (0, 3))))
            one, other = self.rings(hall), self.rings(rewound)
            self.assertEqual([name for name, _ in one], [name for name, _ in other])
            for at, (_, moment) in enumerate(one):
                for behind in range(at):
                    self.assertEqual(place_order(one[behind][1], moment), place_order(other[behind][1], other[at][1]))

    def test_faces_are_linear(self):
        rng = source(65)
        for _ in range(20):
            hall = some_hall(rng)
            doubled = Hall([(name, tuple((way, curve_plus(f, f)) for way, f in own)) for name, own in hall.things],
                           hall.bells)
            for number, bell in enumerate(hall.bells):
                if bell[1] in ("meet", "mid", "still"):
                    face = faces_of(hall, hall.first, number)[0]
                    self.assertEqual(curve_minus(faces_of(doubled, hall.first, number)[0], face), face)

    def test_many_things(self):
        letters = "abcdef"
        hall = Hall([(name, (("x", (1, 2)),)) for name in letters],
                    [(name, "at", (name, 3), "any") for name in letters])
        self.assert_same(hall.first, (0,) * 6)
        self.assert_same(followed_curves(hall, hall.first), ((1, 2),) * 6)


if __name__ == "__main__":
    unittest.main()
