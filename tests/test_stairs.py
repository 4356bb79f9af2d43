"""Promises [32] and [33]: stairs."""

import copy
import unittest

from curvebells.errors import InvalidSaying, InvalidText
from curvebells.stairs import Stair, is_timeless, stair_depth, stair_names, tidy_stair
from curvebells.wishes import Wish
from tests.helpers import ANY_VALUES, BellCase, source

ALL_WORDS = (
    ("above", "cat", "dog"), ("above", "cat", -3), ("above", 0, "dog"), ("rises", "cat"), ("falls", "owl"),
    ("rings", "ding"), ("not", 0), ("and", 0, 6), ("or", 7, 7), ("until", 1, 2), ("since", 9, 0), ("soon", 10, 1),
    ("lately", 11, 9),
)
ALL_TEXT = """above cat dog
above cat -3
above 0 dog
rises cat
falls owl
rings ding
not 0
and 0 6
or 7 7
until 1 2
since 9 0
soon 10 1
lately 11 9"""


class TestStair(BellCase):

    def test_rows(self):
        self.assert_same(Stair(ALL_WORDS).rows, ALL_WORDS)
        self.assert_same(Stair(rows=list(ALL_WORDS)).rows, ALL_WORDS)

    def test_longest_names(self):
        rows = (("rises", "abcdefgh"), ("above", "z", "abcdefgh"), ("rings", "a"))
        self.assert_same(Stair(rows).rows, rows)
        self.assert_same(Stair.read("rises abcdefgh\nabove z abcdefgh\nrings a").rows, rows)

    def test_later_changes(self):
        rows = list(ALL_WORDS)
        stair = Stair(rows)
        self.assertEqual(rows, list(ALL_WORDS))
        rows[0] = ("rings", "dong")
        rows.pop()
        self.assertEqual(stair.rows, ALL_WORDS)

    def test_equal(self):
        one, other = Stair([("rises", "a"), ("not", 0)]), Stair((("rises", "a"), ("not", 0)))
        self.assertTrue(one == other)
        self.assertFalse(one != other)
        self.assertFalse(one == Stair([("rises", "a")]))
        self.assertFalse(one == Stair([("falls", "a"), ("not", 0)]))
        for value in (one.rows, str(one), None, 1, Wish(1, (), ())):
            self.assertFalse(one == value)
            self.assertTrue(one != value)

    def test_no_length_and_not_iterable(self):
        with self.assertRaises(TypeError):
            iter(Stair(ALL_WORDS))
        with self.assertRaises(TypeError):
            len(Stair(ALL_WORDS))

    def test_no_sequence_or_empty(self):
        for value in (None, 3, True, "", "rises a", [], (), Stair(ALL_WORDS)):
            self.assert_error(InvalidSaying, {"at": -1}, Stair, value)

    def test_wrong_rows(self):
        for row in (
                (), [], ["rises", "a"], "rises a", None, 3, True, ("rises",), ("rises", "a", "b"), ("rises", 3),
                ("rises", "A"), ("rises", ""), ("rises", "abcdefghi"), ("rises", "a1"), ("rises", None),
                ("rises", ["a"]), ("rises", "\u00e9"), ("falls", 0), ("rings", ("a",)), ("rings", 1), ("rung", "a"),
                ("above", "a", "a"), ("above", 1, 2), ("above", 1, 1), ("above", "a"), ("above", "a", True),
                ("above", False, "a"), ("above", "a", "b", "c"), ("above", "a", None), ("above", "a", (1,)),
                ("above", "a", "A"), ("not", -1), ("not", 1), ("not", 2), ("not", True), ("not", "a"), ("not", None),
                ("not",), ("not", 0, 0), ("and", 0), ("and", 0, 1), ("or", 0, -1), ("until", 0, 0, 0),
                ("until", False, 0), ("since", 0, [0]), ("soon", 0, 0), ("soon", 0, -1), ("soon", 1, 1), ("soon", 0),
                ("soon", 0, True), ("lately", 0, "1"), ("lately", 0, None), ("lately", 0, 0), (1, "a"), (None, 0),
                (["not"], 0), ((), 0), ("", 0), ("Not", 0), (True, 0)):
            self.assert_error(InvalidSaying, {"at": 1}, Stair, [("rises", "a"), row])
            self.assert_error(InvalidSaying, {"at": 1}, Stair, (("rises", "a"), row, ("falls", 7)))

    def test_first_row(self):
        self.assert_error(InvalidSaying, {"at": 0}, Stair, [("not", 0)])
        self.assert_error(InvalidSaying, {"at": 0}, Stair, [("until", 1, 1), ("rises", "a")])
        self.assert_error(InvalidSaying, {"at": 0}, Stair, ("rises", "a"))

    def test_any_value(self):
        for value in ANY_VALUES:
            if value in ((("rises", "a"),), [("rises", "a")]):
                self.assertEqual(Stair(value).rows, (("rises", "a"),))
            elif isinstance(value, (list, tuple)) and len(value) > 0:
                self.assert_error(InvalidSaying, {"at": 0}, Stair, value)
            else:
                self.assert_error(InvalidSaying, {"at": -1}, Stair, value)

    def test_many_rows(self):
        rows = [("rises", "a")] + [("not", at) for at in range(16)]
        self.assertEqual(Stair(rows).rows, tuple(rows))
        self.assert_error(InvalidSaying, {"at": 99}, Stair, [("rises", "a")] * 99 + [("not", 99)] * 5)


class TestText(BellCase):

    def test_text(self):
        self.assertEqual(str(Stair(ALL_WORDS)), ALL_TEXT)
        self.assertEqual(Stair.read(ALL_TEXT), Stair(ALL_WORDS))
        self.assert_same(Stair.read(text=ALL_TEXT).rows, ALL_WORDS)
        self.assertEqual(str(Stair([("above", "cat", -3)])), "above cat -3")
        self.assertEqual(str(Stair([("rises", "a"), ("until", 0, 0)])), "rises a\nuntil 0 0")

    def test_no_string(self):
        for value in ANY_VALUES:
            if not isinstance(value, str):
                self.assert_error(InvalidText, {"at": -1}, Stair.read, value)

    def test_wrong_texts(self):
        for line in (
                "", " ", "rises", "rises ", "rises  a", " rises a", "rises a ", "rises a b", "rises 3", "rises A",
                "rises abcdefghi", "rises a1", "rises \u00e9", "Rises a", "rung a", "above a", "above a b c",
                "above a +1", "above a 01", "above a -0", "above a 1000000000", "above a 1.0", "above a B", "not a",
                "not", "not 0 0", "not -", "not 00", "and 0", "and 0 a", "or a 0", "until 0 0 0", "since 0 \u0663",
                "soon 0", "soon 0 a", "lately 0 1000000000", "lately a 1", "above\ta b", "a", "0", "not 0\r"):
            self.assert_error(InvalidText, {"at": 1}, Stair.read, "rises a\n" + line)
            self.assert_error(InvalidText, {"at": 0}, Stair.read, line + "\nrises 0")

    def test_empty_lines(self):
        self.assert_error(InvalidText, {"at": 0}, Stair.read, "")
        self.assert_error(InvalidText, {"at": 0}, Stair.read, "\n")
        self.assert_error(InvalidText, {"at": 1}, Stair.read, "rises a\n")
        self.assert_error(InvalidText, {"at": 1}, Stair.read, "rises a\n\nrises a")

    def test_written_well_but_no_saying(self):
        for line in ("above a a", "above 1 2", "not 1", "not -1", "and 0 1", "soon 0 0", "soon 0 -3", "soon 1 1",
                     "lately 0 0", "until 0 5"):
            self.assert_error(InvalidSaying, {"at": 1}, Stair.read, "rises a\n" + line)

    def test_text_first_then_saying(self):
        self.assert_error(InvalidText, {"at": 2}, Stair.read, "not 0\nabove a a\nrises 3")
        self.assert_error(InvalidSaying, {"at": 0}, Stair.read, "not 0\nabove a a\nrises c")

    def test_nine_figures(self):
        self.assertEqual(Stair.read("above a -999999999").rows, (("above", "a", -999999999),))


class TestNames(BellCase):

    def test_names(self):
        self.assert_same(stair_names(Stair(ALL_WORDS)), (("cat", "dog", "owl"), ("ding",)))
        self.assert_same(stair_names(stair=Stair([("rings", "b"), ("rings", "a"), ("rings", "b")])), ((), ("a", "b")))
        self.assert_same(stair_names(Stair([("above", 3, "b"), ("above", "b", "a"), ("falls", "c")])),
                         (("a", "b", "c"), ()))

    def test_one_name_for_a_thing_and_a_bell(self):
        self.assert_same(stair_names(Stair([("rings", "cat"), ("rises", "cat")])), (("cat",), ("cat",)))

    def test_rows_that_say_nothing_are_named_too(self):
        self.assert_same(stair_names(Stair([("rings", "x"), ("rises", "a")])), (("a",), ("x",)))


class TestTimeless(BellCase):

    def test_timeless(self):
        self.assertIs(is_timeless(Stair(ALL_WORDS)), False)
        self.assertIs(is_timeless(Stair(ALL_WORDS[:11])), True)
        self.assertIs(is_timeless(stair=Stair([("rises", "a"), ("soon", 0, 1)])), False)
        self.assertIs(is_timeless(Stair([("rises", "a"), ("lately", 0, 1), ("rises", "a")])), False)
        self.assertIs(is_timeless(Stair([("rises", "soon"), ("until", 0, 0)])), True)


class TestDepth(BellCase):

    def test_depth(self):
        base = [("rises", "a"), ("falls", "a")]
        self.assert_same(stair_depth(Stair(base)), 0)
        self.assert_same(stair_depth(Stair(base + [("and", 0, 1), ("not", 2)])), 0)
        self.assert_same(stair_depth(Stair(base + [("until", 0, 1)])), 1)
        self.assert_same(stair_depth(Stair(base + [("until", 0, 1), ("since", 2, 0)])), 2)
        self.assert_same(stair_depth(Stair(base + [("until", 0, 1), ("since", 0, 2), ("or", 3, 0), ("not", 4)])), 2)
        self.assert_same(stair_depth(stair=Stair(base + [("until", 0, 1), ("until", 1, 0), ("and", 2, 3)])), 1)

    def test_soon_and_lately_keep_it(self):
        rows = [("rises", "a"), ("until", 0, 0), ("soon", 1, 9), ("lately", 2, 3)]
        self.assert_same(stair_depth(Stair(rows)), 1)
        self.assert_same(stair_depth(Stair(rows[:1] + [("soon", 0, 9)])), 0)

    def test_only_the_last_row_counts(self):
        self.assert_same(stair_depth(Stair([("rises", "a"), ("until", 0, 0), ("since", 1, 1), ("not", 0)])), 0)


def meaning(rows, number):
    """A row with the rows that it names in the places of their numbers."""
    word, *told = rows[number]
    if word in ("above", "rises", "falls", "rings"):
        return rows[number]
    if word in ("soon", "lately"):
        return (word, meaning(rows, told[0]), told[1])
    return (word, *[meaning(rows, one) for one in told])


def some_rows(rng, many):
    rows = []
    for at in range(many):
        word = rng.choice(("above", "rises", "not", "and", "until", "soon")) if at else "rises"
        rows.append({
            "above": ("above", "a", rng.choice(("b", 3))), "rises": ("rises", rng.choice("ab")),
            "not": ("not", rng.randrange(max(at, 1))),
            "and": ("and", rng.randrange(max(at, 1)), rng.randrange(max(at, 1))),
            "until": ("until", rng.randrange(max(at, 1)), rng.randrange(max(at, 1))),
            "soon": ("soon", rng.randrange(max(at, 1)), rng.randint(1, 2)),
        }[word])
    return rows


class TestTidy(BellCase):

    def test_by_hand(self):
        stair = Stair([("rises", "a"), ("falls", "b"), ("rises", "a"), ("not", 0), ("not", 2), ("and", 3, 4)])
        tidy = tidy_stair(stair)
        self.assertIsInstance(tidy, Stair)
        self.assert_same(tidy.rows, (("rises", "a"), ("not", 0), ("and", 1, 1)))
        self.assertEqual(len(stair.rows), 6)

    def test_numbers_are_led_along(self):
        stair = Stair([("rises", "a"), ("rises", "a"), ("until", 0, 1), ("until", 1, 0), ("or", 2, 3)])
        self.assert_same(tidy_stair(stair).rows, (("rises", "a"), ("until", 0, 0), ("or", 1, 1)))

    def test_last_row_is_like_an_elder_one(self):
        stair = Stair([("rises", "a"), ("not", 0), ("falls", "a"), ("not", 1), ("rises", "a"), ("not", 4)])
        self.assert_same(tidy_stair(stair=stair).rows, (("rises", "a"), ("not", 0)))

    def test_what_is_not_alike(self):
        rows = (("rises", "a"), ("falls", "a"), ("and", 0, 1), ("and", 1, 0), ("or", 2, 3))
        self.assert_same(tidy_stair(Stair(rows)).rows, rows)

    def test_integers_that_are_no_rows_stay(self):
        rows = [("rises", "b"), ("above", "a", 1), ("above", 1, "a"), ("soon", 1, 2), ("lately", 3, 1), ("or", 2, 4)]
        self.assert_same(tidy_stair(Stair(rows)).rows,
                         (("above", "a", 1), ("above", 1, "a"), ("soon", 0, 2), ("lately", 2, 1), ("or", 1, 3)))

    def test_some_stairs(self):
        rng = source(3)
        for _ in range(300):
            stair = Stair(some_rows(rng, rng.randint(1, 12)))
            before = copy.deepcopy(stair.rows)
            tidy = tidy_stair(stair)
            self.assertEqual(stair.rows, before)
            told = [meaning(tidy.rows, at) for at in range(len(tidy.rows))]
            self.assertEqual(told[-1], meaning(stair.rows, len(stair.rows) - 1))
            self.assertEqual(len(set(told)), len(told))
            self.assertEqual(tidy_stair(tidy), tidy)
            first = [meaning(stair.rows, at) for at in range(len(stair.rows))]
            self.assertEqual([first.index(one) for one in told], sorted(first.index(one) for one in told))
            self.assertEqual(stair_depth(tidy), stair_depth(stair))


if __name__ == "__main__":
    unittest.main()
