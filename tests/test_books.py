"""Promise [96]: books of sheets, and what follows from several of them."""

import itertools
import unittest

from curvebells.alike import parting_index
from curvebells.books import Book
from curvebells.checker import sheet_holds
from curvebells.errors import Refused
from curvebells.halls import Hall
from curvebells.made import heights_hall
from curvebells.papers import place_paper
from curvebells.places import place_in, place_order, ratio_place
from curvebells.rules import Ruled
from curvebells.runs import Run, run_paper
from curvebells.stairs import Stair
from curvebells.wishes import Wish
from tests.helpers import ANY_VALUES, BellCase, picture, shape_of, source
from tests.test_alike import near_tale, some_tale
from tests.test_checker import HEARD, ROOMS, SEQUENCES, SHEETS, TALE
from tests.test_runs import EXAMPLE

# Places from 1 on, some told twice, by curves of their own.
PLACES = (ratio_place((1, 1)), ((-2, 0, 1), 2), ((0, -2, 0, 1), 3), ratio_place((3, 2)), ((-3, 0, 1), 2), ((3, -1, -3, 1), 2),
          ratio_place((2, 1)))


def placed_sheet(one, other):
    """The sheet that one place is before the other one, or the same, either way about."""
    if place_order(one, other) == 0:
        return ("same", (one, other), place_paper(one, other))
    one, other = (one, other) if place_order(one, other) < 0 else (other, one)
    return ("before", (one, other), place_paper(one, other))


def told_sheet(one, other, names):
    index = parting_index(one, other, names)
    return ("alike" if index is None else "parted", (one, other, names), index)


def follows(sheets, kind, question):
    """Whether a place lies before another one, or is the same, by the words of [96]."""
    one, other = question
    met, todo = set(), [(one, False)]
    while todo:
        node = todo.pop()
        if node in met:
            continue
        met.add(node)
        for word, (first, second), _ in sheets:
            if word == "before" and first == node[0]:
                todo.append((second, True))
            if word == "same" and node[0] in (first, second):
                todo.append((second if first == node[0] else first, node[1]))
    return (other, kind == "before") in met


def book_of(sheets):
    book = Book()
    for sheet in sheets:
        book.put(sheet)
    return book


class TestKept(BellCase):

    def test_at_first(self):
        book = Book()
        self.assert_same(book.sheets, ())
        self.assert_same(book.knows("weave", (ROOMS,)), None)
        self.assert_error(Refused, {"at": 0}, book.forget, 0)

    def test_put(self):
        book = Book()
        for sheet in SHEETS:
            self.assert_same(book.put(sheet), True)
        self.assertEqual(len(book.sheets), len(SHEETS))
        for kept, sheet in zip(book.sheets, SHEETS):
            self.assertEqual(kept, sheet)
            self.assertEqual(shape_of(kept), shape_of(sheet))
        before = picture(book)
        for sheet in SHEETS[::-1]:
            self.assert_same(book.put(sheet=sheet), True)
            self.assertEqual(picture(book), before)
        for value in ANY_VALUES + tuple(list(sheet) for sheet in SHEETS) + tuple(sheet[:2] for sheet in SHEETS):
            self.assert_same(book.put(value), False)
            self.assertEqual(picture(book), before)
        for kind, question, value in SHEETS:
            self.assert_same(book.put((kind, question + (None,), value)), False)
            self.assert_same(book.put((kind, list(question), value)), False)
            self.assert_same(book.put((kind, question, value, None)), False)
        self.assertEqual(picture(book), before)

    def test_lists_are_kept_as_tuples(self):
        for kind, question, value in SHEETS:
            places = SEQUENCES.get(kind, ())
            told = tuple(list(one) if at in places else one for at, one in enumerate(question))
            book = Book()
            self.assert_same(book.put((kind, told, value)), True)
            self.assertEqual(shape_of(book.sheets), shape_of(((kind, question, value),)))
            self.assertEqual(book.sheets, ((kind, question, value),))
            self.assert_same(book.put((kind, question, value)), True)
            self.assertEqual(len(book.sheets), 1)
            for at in places:
                told[at].clear()
            self.assertEqual(book.sheets, ((kind, question, value),))

    def test_unlike_ones_are_kept(self):
        book = Book()
        cuts = [((0, 1),), ((-1, 1), (1, 1)), ((1, 2),)]
        for value in cuts + cuts:
            self.assert_same(book.put(("zeros", ((-2, 0, 1), 2), value)), True)
        self.assert_same([value for _, _, value in book.sheets], cuts)
        # Halls have no == of their own: two of one text are two.
        one, other = heights_hall(HEARD), heights_hall(HEARD)
        for hall in (one, other, one):
            book.put(("heights", (HEARD,), hall))
        self.assertEqual(len(book.sheets), 5)
        # Stairs have: two of like rows are one.
        rows = [("above", "a", 0), ("not", 0), ("or", 0, 1)]
        kinds = tuple(((sign,), (), False) for sign in (-1, 0, 1))
        for stair in (Stair(rows), Stair(list(rows))):
            self.assert_same(book.put(("valid", (stair,), kinds)), True)
        self.assertEqual(len(book.sheets), 6)
        self.assert_same(book.knows("valid", (Stair(rows),)), (5,))

    def test_forget(self):
        book = book_of(SHEETS)
        many = len(SHEETS)
        for value in ANY_VALUES + (many, -1, True, False, None, "0"):
            if not (value.__class__ is int and 0 <= value < many):
                before = picture(book)
                self.assert_error(Refused, {"at": 0}, book.forget, value)
                self.assertEqual(picture(book), before)
        self.assert_same(book.forget(number=2), None)
        self.assertEqual(book.sheets, tuple(SHEETS[:2] + SHEETS[3:]))
        self.assert_same(book.knows(SHEETS[2][0], SHEETS[2][1]), None)
        self.assert_same(book.knows(SHEETS[3][0], SHEETS[3][1]), (2,))
        book.forget(many - 2)
        book.forget(0)
        self.assertEqual(book.sheets, tuple(SHEETS[1:2] + SHEETS[3:-1]))
        self.assert_error(Refused, {"at": 0}, book.forget, many - 3)
        book.put(SHEETS[2])
        self.assertEqual(book.sheets[-1], SHEETS[2])

    def test_books_are_apart(self):
        one, other = Book(), Book()
        one.put(SHEETS[0])
        self.assert_same(other.sheets, ())


class TestKnows(BellCase):

    def test_each_kind(self):
        book = book_of(SHEETS)
        for number, (kind, question, _) in enumerate(SHEETS):
            self.assert_same(book.knows(kind, question), (number,))
            self.assert_same(book.knows(kind=kind, question=question), (number,))
            self.assert_same(book.knows(kind, list(question)), None)
            self.assert_same(book.knows(kind, question + (None,)), None)
            self.assert_same(book.knows(kind, question[:-1]), None)
            self.assert_same(book.knows(kind + "x", question), None)
            self.assert_same(book.knows([kind], question), None)
            for at, one in enumerate(question):
                if isinstance(one, tuple):
                    told = question[:at] + (list(one),) + question[at + 1:]
                    self.assert_same(book.knows(kind, told), (number,) if at in SEQUENCES.get(kind, ()) else None)
                if one.__class__ is int and one in (0, 1):
                    self.assert_same(book.knows(kind, question[:at] + (bool(one),) + question[at + 1:]), None)
                for value in ANY_VALUES:
                    told = book.knows(kind, question[:at] + (value,) + question[at + 1:])
                    self.assertTrue(told is None or isinstance(told, tuple))

    def test_any_values(self):
        book = book_of(SHEETS)
        for value in ANY_VALUES:
            self.assert_same(book.knows(value, value), None)
            for kind, question, _ in SHEETS:
                self.assert_same(book.knows(value, question), None)
                told = book.knows(kind, value)
                self.assertTrue(told is None or (kind == "zeros" and told == (3,) and value == question))

    def test_objects_are_themselves(self):
        book, ruled = Book(), Ruled(EXAMPLE)
        book.put(("run", (ruled, Run(ruled).tale), run_paper(ruled)))
        self.assert_same(book.knows("run", (ruled, Run(ruled).tale)), (0,))
        self.assert_same(book.knows("run", (Ruled(EXAMPLE), Run(ruled).tale)), None)
        self.assert_same(book.knows("run", (ruled, list(Run(ruled).tale))), None)
        book = book_of(SHEETS)
        number = [kind for kind, _, _ in SHEETS].index("sure")
        game, wish, group, by = SHEETS[number][1]
        self.assert_same(book.knows("sure", (game, Wish(wish.states, wish.good, wish.steps), ["ann"], by)), (number,))
        self.assert_same(book.knows("sure", (game, wish, ["ann", "ann"], by)), None)

    def test_places_by_hand(self):
        p, q, again, r, s, t, u = PLACES
        book = book_of([placed_sheet(q, again), placed_sheet(p, q), placed_sheet(again, r), placed_sheet(r, s)])
        self.assert_same(book.knows("before", (p, r)), (0, 1, 2))
        self.assert_same(book.knows("before", (p, again)), (0, 1))
        self.assert_same(book.knows("before", (q, s)), (0, 2, 3))
        self.assert_same(book.knows("same", (again, q)), (0,))
        self.assert_same(book.knows("same", (q, again)), (0,))
        self.assert_same(book.knows("before", (q, again)), None)
        self.assert_same(book.knows("before", (r, p)), None)
        self.assert_same(book.knows("before", (p, p)), None)
        self.assert_same(book.knows("same", (p, q)), None)
        self.assert_same(book.knows("before", (p, t)), None)
        # A place is the same as itself without a sheet; equal numbers by other tuples need one.
        for place in (p, u, ratio_place((7, 9))):
            self.assert_same(book.knows("same", (place, place)), ())
            self.assert_same(book.knows("before", (place, place)), None)
        self.assert_same(book.knows("same", (s, ((-6, 0, 2), 2))), None)
        self.assert_same(book.knows("same", (((-6, 0, 2), 2), ((-6, 0, 2), 2))), None)
        self.assert_same(book.knows("same", ((p[0], True), (p[0], True))), None)
        self.assert_same(book.knows("same", ([p[0], 1], [p[0], 1])), None)
        self.assert_same(book.knows("same", (p, p, p)), None)
        self.assert_same(book.knows("same", (p,)), None)

    def test_places(self):
        rng = source(520)
        told = {True: 0, False: 0}
        for _ in range(60):
            sheets = []
            for _ in range(rng.randint(0, 7)):
                one, other = rng.sample(PLACES, 2)
                sheets.append(placed_sheet(one, other))
            book = book_of(sheets)
            for kind, one, other in itertools.product(("before", "same"), PLACES, PLACES):
                numbers = book.knows(kind, (one, other))
                self.assertEqual(numbers is not None, follows(book.sheets, kind, (one, other)))
                told[numbers is not None] += 1
                if numbers is not None:
                    self.assert_same(numbers, tuple(sorted(set(numbers))))
                    self.assertTrue(follows([book.sheets[number] for number in numbers], kind, (one, other)))
                    self.assertEqual(place_order(one, other), -1 if kind == "before" else 0)
        self.assertGreater(min(told.values()), 200)

    def test_parted_by_hand(self):
        book = book_of([told_sheet(TALE, HEARD, ["x"]), told_sheet(TALE, HEARD, ("x", "y"))])
        self.assert_same([kind for kind, _, _ in book.sheets], ["parted", "parted"])
        self.assert_same(book.knows("parted", (TALE, HEARD, ["y", "x", "z"])), (0,))
        self.assert_same(book.knows("parted", (HEARD, TALE, ("x", "x"))), (0,))
        self.assert_same(book.knows("parted", (TALE, HEARD, ("y",))), None)
        self.assert_same(book.knows("parted", (TALE, HEARD, ())), None)
        self.assert_same(book.knows("parted", (TALE, TALE, ("x",))), None)
        self.assert_same(book.knows("parted", (TALE, HEARD, ("x", 1))), None)
        self.assert_same(book.knows("parted", (TALE, HEARD, "x")), None)
        self.assert_same(book.knows("parted", (list(TALE), HEARD, ("x",))), None)
        self.assert_same(book.knows("alike", (TALE, HEARD, ("x",))), None)

    def test_alike_by_hand(self):
        one, other = (("x",), ("y",), ("z",)), (("x",), ("y",), ("z",))
        book = Book()
        self.assert_same(book.knows("alike", (one, other, ())), ())
        self.assert_same(book.knows("alike", (one, other, ["owl"])), ())
        self.assert_same(book.knows("alike", (one, other, ["owl", 1])), None)
        self.assert_same(book.knows("alike", (one, None, [])), None)
        self.assert_same(book.knows("alike", (one, list(other), [])), None)
        self.assert_same(book.knows("alike", (one, other, ("x",))), None)
        for names in (("x", "y"), ("y", "z", "owl"), ("x", "z")):
            self.assert_same(book.knows("alike", (one, other, ("x", "y", "z"))), None)
            book.put(("alike", (one, other, names), None))
        self.assert_same(book.knows("alike", (one, other, ["z", "y", "x", "bat"])), (0, 1, 2))
        self.assert_same(book.knows("alike", (other, one, ("z", "y"))), (1,))
        self.assert_same(book.knows("alike", (other, one, ("z",)))[0] in (1, 2), True)
        self.assert_same(book.knows("alike", (one, one[:2], ("x", "y"))), None)
        self.assert_same(book.knows("parted", (one, other, ("x", "y"))), None)

    def test_tales(self):
        rng = source(521)
        told = {"parted": 0, "alike": 0, None: 0}
        for _ in range(60):
            tales = [some_tale(rng, "xyz", 3)]
            tales += [near_tale(rng, tales[0], "xyz") for _ in range(2)]
            sheets = []
            for _ in range(rng.randint(0, 8)):
                one, other = rng.choice(tales), rng.choice(tales)
                sheets.append(told_sheet(one, other, rng.sample("wxyz", rng.randint(0, 3))))
            book = book_of(sheets)
            for _ in range(20):
                one, other = rng.choice(tales), rng.choice(tales)
                names = tuple(rng.sample("wxyz", rng.randint(0, 4)))
                for kind in ("parted", "alike"):
                    numbers = book.knows(kind, (one, other, names))
                    self.check_tales(book, kind, one, other, names, numbers)
                    told[kind if numbers is not None else None] += 1
        self.assertGreater(min(told.values()), 20)

    def check_tales(self, book, kind, one, other, names, numbers):
        beside = {number: set(told[2]) for number, (word, told, _) in enumerate(book.sheets)
                  if word == kind and told[:2] in ((one, other), (other, one))}
        rung = {name for tale in (one, other) for lot in tale for name in lot} & set(names)
        if kind == "parted":
            known = any(own <= set(names) for own in beside.values())
        else:
            exact = any(told[2] == names and told[:2] == (one, other) and word == kind for word, told, _ in book.sheets)
            known = exact or all(any({a, b} <= own for own in beside.values()) for a in rung for b in rung)
        self.assertEqual(numbers is not None, known)
        if numbers is not None:
            self.assert_same(numbers, tuple(sorted(set(numbers))))
            self.assertEqual(parting_index(one, other, names) is None, kind == "alike")
            self.assertTrue(all(number in beside for number in numbers))

    def test_what_is_known_holds(self):
        # Where knows tells numbers there is a sheet of this kind for this question.
        book = book_of([placed_sheet(one, other) for one, other in zip(PLACES, PLACES[1:])])
        for one, other in itertools.permutations(PLACES, 2):
            for kind in ("before", "same"):
                if book.knows(kind, (one, other)) is not None:
                    self.assertTrue(sheet_holds(kind, (one, other), place_paper(one, other)))
        self.assertIsNotNone(place_in((3, -1, -3, 1), PLACES[0]))

    def test_greatest(self):
        book = book_of(SHEETS[:12])
        for kind, question, _ in SHEETS:
            self.assert_soon(2, book.knows, kind, question)
        tale = tuple((name,) for name in "uvwxyz") * 2
        book = Book()
        for names in itertools.islice(itertools.combinations("uvwxyz", 4), 12):
            self.assert_soon(1, book.put, ("alike", (tale, tale, names), None))
        self.assert_soon(1, book.knows, "alike", (tale, tale, tuple("uvwxyz")))
        self.assertIsInstance(Hall([("a", (("w", ()),))], ()), Hall)


if __name__ == "__main__":
    unittest.main()
