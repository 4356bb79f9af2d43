"""Promise [42]: rules."""

import unittest

from curvebells.errors import InvalidRule, InvalidSize, InvalidText
from curvebells.halls import Hall
from curvebells.rules import Ruled
from tests.helpers import ANY_VALUES, SMALL_HALL, BellCase, picture, source

HALL = Hall.read("""thing cat
way run 0 1
way sit 9
thing dog
way run 3
way sit 0 0 1
way turn 1
thing while
way when 1
bell tick at cat 3 any
bell cat still dog any
bell turn still cat any""")
RULES = (
    ("tick", (("cat", "run"), ("dog", "sit")), "cat", "sit"), ("cat", (), "dog", "turn"),
    ("turn", (("while", "when"),), "while", "when"), ("tick", (("cat", "run"), ("dog", "sit")), "cat", "sit"),
)
TEXT = """when tick while cat run dog sit turn cat sit
when cat turn dog turn
when turn while while when turn while when
when tick while cat run dog sit turn cat sit"""


class TestRuled(BellCase):

    def test_attributes(self):
        ruled = Ruled(HALL, list(RULES))
        self.assertIs(ruled.hall, HALL)
        self.assert_same(ruled.rules, RULES)
        self.assert_same(Ruled(HALL).rules, ())
        self.assert_same(Ruled(rules=(), hall=HALL).rules, ())
        self.assertEqual(len(Ruled(HALL, [RULES[1]] * 6).rules), 6)
        whole = ("cat", (("cat", "sit"), ("dog", "turn"), ("while", "when")), "dog", "run")
        self.assert_same(Ruled(HALL, [whole]).rules, (whole,))

    def test_later_changes(self):
        rules = list(RULES)
        ruled = Ruled(HALL, rules)
        rules.pop()
        rules[0] = None
        self.assert_same(ruled.rules, RULES)

    def test_no_length_and_not_iterable(self):
        with self.assertRaises(TypeError):
            iter(Ruled(HALL))
        with self.assertRaises(TypeError):
            len(Ruled(HALL))

    def test_no_rules(self):
        for value in (None, 3, "when", True, Ruled(HALL), [RULES[1]] * 7, (None,) * 7):
            self.assert_error(InvalidRule, {"at": -1}, Ruled, HALL, value)

    def test_wrong_rules(self):
        for wrong in (None, "tick", list(RULES[1]), RULES[1] + ((),), RULES[1][:3], ("tock", (), "dog", "run"),
                      (None, (), "dog", "run"), (0, (), "dog", "run"), ("dog", (), "dog", "run"),
                      ("cat", (), "owl", "run"), ("cat", (), "tick", "run"), ("cat", (), "dog", "hop"),
                      ("cat", (), "cat", "turn"), ("cat", (), "dog", None), ("cat", (), "dog", 0),
                      ("cat", (), ("dog",), "run"), ("cat", [], "dog", "run"), ("cat", None, "dog", "run"),
                      ("cat", "", "dog", "run"), ("cat", ("cat", "run"), "dog", "run"),
                      ("cat", (["cat", "run"],), "dog", "run"), ("cat", (("cat",),), "dog", "run"),
                      ("cat", (("cat", "run", 0),), "dog", "run"), ("cat", (("owl", "run"),), "dog", "run"),
                      ("cat", (("cat", "turn"),), "dog", "run"), ("cat", (("cat", 0),), "dog", "run"),
                      ("cat", (("cat", "run"), ("cat", "run")), "dog", "run"),
                      ("cat", (("cat", "run"), ("cat", "sit")), "dog", "run"),
                      ("cat", (("dog", "sit"), ("cat", "run")), "dog", "run"),
                      ("cat", (("while", "when"), ("dog", "sit")), "dog", "run"),
                      ("cat", (None,), "dog", "run"), ("cat", (([], []),), "dog", "run")):
            self.assert_error(InvalidRule, {"at": 0}, Ruled, HALL, [wrong])
            self.assert_error(InvalidRule, {"at": 2}, Ruled, HALL, RULES[:2] + (wrong, None))

    def test_any_value(self):
        for value in ANY_VALUES:
            at = 0 if isinstance(value, (list, tuple)) and value else -1
            if value not in ((), []):
                self.assert_error(InvalidRule, {"at": at}, Ruled, HALL, value)
            for at in range(4):
                rule = ("cat", (), "dog", "run")
                rule = rule[:at] + (value,) + rule[at + 1:]
                if rule not in (("cat", (), "dog", "run"), ("cat", (), "cat", "run")):
                    self.assert_error(InvalidRule, {"at": 0}, Ruled, HALL, [rule])


class TestText(BellCase):

    def test_text(self):
        self.assert_same(Ruled(HALL, RULES).text(), TEXT)
        self.assert_same(Ruled(HALL).text(), "")

    def test_read(self):
        for ruled in (Ruled.read(HALL, TEXT), Ruled.read(text=TEXT, hall=HALL), Ruled(HALL).read(HALL, TEXT)):
            self.assert_same(ruled.rules, RULES)
            self.assertIs(ruled.hall, HALL)
        self.assert_same(Ruled.read(HALL, "").rules, ())

    def test_wrong_rows(self):
        for row in (" ", "when", "when cat", "when cat turn dog", "when turn dog run", "when cat turn dog run sit", "when cat  turn dog run",
                    " when cat turn dog run", "when cat turn dog run ", "When cat turn dog run", "when cat while turn dog run",
                    "when cat while cat turn dog run", "when cat while cat run dog turn dog run",
                    "when cat if cat run turn dog run", "when cat while cat run", "if cat turn dog run",
                    "when cat while cat run turns dog run", "when cat turns dog run", "when Cat turn dog run",
                    "when cat turn 1 run", "when cat turn dog run1", "when abcdefghi turn dog run",
                    "when cat cat run turn dog run", "when cat while cat Run turn dog run", "\n", "x",
                    "when cat\twhile turn dog run", "turn cat when dog run", "when cat while while turn dog run"):
            self.assert_error(InvalidText, {"at": 0}, Ruled.read, HALL, row)
            self.assert_error(InvalidText, {"at": 1}, Ruled.read, HALL, "when owl turn owl owl\n" + row + "\nx")
        self.assert_error(InvalidText, {"at": 1}, Ruled.read, HALL, "when cat turn dog run\n")
        self.assert_error(InvalidText, {"at": 7}, Ruled.read, HALL, "when cat turn dog run\n" * 7 + "x")

    def test_then_no_rules(self):
        for text, at in (("when owl turn dog run", 0), ("when cat turn dog run\nwhen cat turn owl run", 1),
                         ("when cat turn cat turn", 0), ("when cat while dog run cat run turn dog run", 0),
                         ("when cat while dog run dog run turn dog run", 0), ("when cat turn dog run\n" * 6 + "when x turn x x",
                                                                             -1)):
            self.assert_error(InvalidRule, {"at": at}, Ruled.read, HALL, text)

    def test_all_rules(self):
        rng = source(81)
        for _ in range(80):
            ruled = some_ruled(rng)
            self.assertEqual(picture(Ruled.read(HALL, ruled.text())), picture(ruled))


def some_ruled(rng):
    rules = []
    for _ in range(rng.randint(0, 6)):
        whiles = [(name, rng.choice(ways)[0]) for name, ways in HALL.things if rng.random() < 0.4]
        thing, ways = rng.choice(HALL.things)
        rules.append((rng.choice(HALL.bells)[0], tuple(whiles), thing, rng.choice(ways)[0]))
    return Ruled(HALL, rules)


class TestPicked(BellCase):

    def test_ordered(self):
        ruled = Ruled(HALL, RULES[:3])
        self.assert_same(ruled.ordered([2, 0, 1]).rules, (RULES[2], RULES[0], RULES[1]))
        self.assert_same(ruled.ordered(order=(0, 1, 2)).rules, RULES[:3])
        self.assertIs(ruled.ordered([2, 0, 1]).hall, HALL)
        self.assert_same(ruled.rules, RULES[:3])
        self.assert_same(Ruled(HALL).ordered(()).rules, ())
        for order in ((0, 1), (0, 1, 1), (0, 1, 3), (1, 2, 3), (0, 1, 2, 2), (0, 1, 2, 3), (), None, 3, "012",
                      (False, 1, 2), (0, True, 2), (0, 1, None), ("0", "1", "2"), (0, 1, -1), ((0,), (1,), (2,)),
                      (0, [], 2), (0, 1, (2,))):
            self.assert_error(InvalidSize, {"word": "order"}, ruled.ordered, order)
        for value in ANY_VALUES:
            self.assert_error(InvalidSize, {"word": "order"}, ruled.ordered, value)
            if value not in ((), []):
                self.assert_error(InvalidSize, {"word": "order"}, Ruled(HALL).ordered, value)

    def test_only(self):
        ruled = Ruled(HALL, RULES[:3])
        self.assert_same(ruled.only([0, 2]).rules, (RULES[0], RULES[2]))
        self.assert_same(ruled.only(lot=()).rules, ())
        self.assert_same(ruled.only((0, 1, 2)).rules, RULES[:3])
        self.assert_same(ruled.only([1]).rules, (RULES[1],))
        self.assertIs(ruled.only([1]).hall, HALL)
        for lot in ((1, 0), (0, 0), (0, 3), (3,), (-1,), (True,), (0, True), None, 1, "0", ("0",), (None,), ((0,),), ([],)):
            self.assert_error(InvalidSize, {"word": "lot"}, ruled.only, lot)
        for value in ANY_VALUES:
            if value not in ((), [], (1, 2), [1, 2], (0, 2)) or True in [isinstance(one, bool) for one in value]:
                self.assert_error(InvalidSize, {"word": "lot"}, ruled.only, value)

    def test_a_small_hall(self):
        ruled = Ruled.read(SMALL_HALL, "when c while a b turn a b")
        self.assert_same(ruled.rules, (("c", (("a", "b"),), "a", "b"),))


if __name__ == "__main__":
    unittest.main()
