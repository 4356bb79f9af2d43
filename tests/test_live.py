"""Promises [93] and [94]: halls that are changed by deeds."""

import unittest

from curvebells.errors import BellError, InvalidCommand, InvalidHall, InvalidRule, NoName, Refused
from curvebells.halls import Hall
from curvebells.live import Live
from curvebells.places import place_order
from curvebells.rules import Ruled
from curvebells.runs import Run
from tests.helpers import ANY_VALUES, BellCase, picture, some_curve, source

HALL = Hall.read("thing cat\nway run 0 1\nway sit 9\nbell ding at cat 2 any\nbell dong at cat 4 any")
TEXT = HALL.text()
FOUR = ((-4, 1), 1)


def live_by(*deeds):
    live = Live(HALL)
    for deed in deeds:
        live.deed(deed)
    return live


def known_lost(row, other):
    """What rings by a row and not by the other one, by the words of [94]."""
    lost = []
    for moment, lot in row:
        there = [name for beside, names in other if place_order(moment, beside) == 0 for name in names]
        names = tuple(name for name in lot if name not in there)
        if names:
            lost.append((moment, names))
    return tuple(lost)


class TestDeeds(BellCase):

    def test_example(self):
        live = Live(HALL)
        self.assert_same(live.deed("when ding turn cat sit"), None)
        self.assert_same((live.tale, live.changed), ((("ding",),), (((FOUR, ("dong",)),), ())))
        self.assert_same(live.undo(), None)
        self.assert_same(live.changed, ((), ((FOUR, ("dong",)),)))
        self.assert_same(live.redo(), None)
        self.assert_same(live.changed, (((FOUR, ("dong",)),), ()))

    def test_at_first(self):
        live = Live(hall=HALL)
        self.assertIs(live.hall, HALL)
        self.assertIs(live.ruled.hall, HALL)
        self.assert_same((live.ruled.rules, live.deeds, live.changed), ((), (), ((), ())))
        self.assert_same((live.row, live.tale), (Run(Ruled(HALL)).row, (("ding",), ("dong",))))

    def test_each_deed(self):
        for deed, text in (
                ("thing dog walk 0 0 1", TEXT.replace("\nbell ding", "\nthing dog\nway walk 0 0 1\nbell ding")),
                ("thing dog walk 0", TEXT.replace("\nbell ding", "\nthing dog\nway walk 0\nbell ding")),
                ("thing ding dong -999999999", TEXT.replace("\nbell ding", "\nthing ding\nway dong -999999999\nbell ding")),
                ("way cat back 5 -1", TEXT.replace("9\nbell", "9\nway back 5 -1\nbell")),
                ("bend cat run 1 2 3", TEXT.replace("run 0 1", "run 1 2 3")),
                ("bend cat sit 0", TEXT.replace("sit 9", "sit 0")),
                ("bell tick at cat -3 up", TEXT + "\nbell tick at cat -3 up"),
                ("bell tick still cat touch", TEXT + "\nbell tick still cat touch"),
                ("mode dong touch", TEXT.replace("4 any", "4 touch")),
                ("mode ding any", TEXT),
                ("drop way cat run", TEXT.replace("way run 0 1\n", "")),
                ("drop bell ding", TEXT.replace("\nbell ding at cat 2 any", ""))):
            live = live_by(deed)
            self.assert_same(live.hall.text(), text)
            self.assert_same(live.deeds, (deed,))
            self.assert_same(live.ruled.rules, ())
            self.assertIs(live.ruled.hall, live.hall)
        self.assert_same(live_by("thing dog a 1", "drop thing dog").hall.text(), TEXT)
        self.assert_same(live_by("thing dog a 1", "drop bell ding", "drop bell dong", "drop thing cat").hall.text(),
                         "thing dog\nway a 1")

    def test_rules(self):
        rules = ["when ding turn cat sit", "when dong while cat sit turn cat run", "when ding turn cat run"]
        live = live_by(*rules)
        self.assert_same(live.ruled.text(), "\n".join(rules))
        live.deed("drop rule 1")
        self.assert_same(live.ruled.text(), rules[0] + "\n" + rules[2])
        live.deed("drop rule 0")
        self.assert_same(live.ruled.text(), rules[2])
        self.assert_same(live.hall.text(), TEXT)
        live.deed("bell tick at cat 1 any")
        self.assert_same(live.ruled.text(), rules[2])
        six = live_by(*rules[:1] * 6)
        self.assert_same(len(six.ruled.rules), 6)
        self.check_refused(six, rules[0])
        six.deed("drop rule 5")
        six.deed(rules[0])

    def check_refused(self, live, deed):
        before = picture(live)
        self.assert_error(Refused, {"at": 0}, live.deed, deed)
        self.assertEqual(picture(live), before)

    def test_refused(self):
        live = live_by("thing dog walk 0 1", "bell tick meet cat dog any", "way dog lie 3", "way dog hop 1 1",
                       "when ding while dog walk turn cat sit", "when dong turn dog lie")
        for deed in ("thing cat a 1", "thing dog a 1", "way owl a 1", "way cat run 1", "way dog up 4", "way ding a 1",
                     "bend owl run 1", "bend cat hop 1", "bend dog run 1", "bell ding still cat any", "bell x still owl any",
                     "bell x meet cat cat any", "bell x near cat dog 0 any", "bell x near cat dog -1 any",
                     "bell x mid cat dog owl any", "bell x at ding 1 any", "mode owl up", "mode cat up",
                     "when owl turn cat sit", "when ding turn owl sit", "when ding turn cat hop", "when cat turn cat sit",
                     "when ding while cat hop turn cat sit", "when ding while dog walk cat run turn cat sit",
                     "when ding while cat run cat sit turn cat sit",
                     "drop thing owl", "drop thing ding", "drop thing dog", "drop thing cat", "drop way owl run",
                     "drop way cat hop", "drop way cat sit", "drop way dog walk", "drop way dog lie", "drop bell owl",
                     "drop bell cat", "drop bell ding", "drop bell dong", "drop rule 2", "drop rule 999999999"):
            self.check_refused(live, deed)
        live.deed("drop bell tick")
        live.deed("drop way dog hop")
        self.check_refused(Live(HALL), "drop thing cat")
        lone = live_by("drop way cat sit")
        self.check_refused(lone, "drop way cat run")
        self.check_refused(lone, "drop rule 0")

    def test_wrong_forms(self):
        live = live_by("when ding turn cat sit", "drop rule 0")
        live.undo()
        before = picture(live)
        wrong = ("thing", "thing dog", "thing dog walk", "thing dog walk ", "thing dog walk 1 0", "thing dog walk x",
                 "thing dog  walk 1", "thing Dog walk 1", "thing dog walk 01", "thing dog walk 1234567890", "thing dog 1 1",
                 "thing dogdogdog walk 1", " thing dog walk 1", "thing dog walk 1 ", "thing dog walk\n1", "Thing dog walk 1",
                 "way", "way cat", "way cat hop", "way cat hop 1 0", "way cat 1", "way cat hop +1", "bend cat run", "bend cat run a",
                 "bend", "bend cat", "bell", "bell x", "bell x at cat any", "bell x at cat 1", "bell x at cat 1 loud",
                 "bell x at 1 1 any", "bell x meet cat any", "bell x near cat dog any", "bell x at cat 1 1 any",
                 "bell X at cat 1 any", "bell x rings cat any", "mode", "mode ding", "mode ding loud", "mode 1 any",
                 "mode ding up up", "when", "when ding", "when ding turn cat", "when ding while turn cat sit",
                 "when ding while cat turn cat sit", "when ding turn cat sit run", "when 1 turn cat sit", "drop", "drop thing",
                 "drop thing cat dog", "drop thing 1", "drop way cat", "drop way cat run sit", "drop way", "drop bell",
                 "drop bell ding dong", "drop bell 1", "drop rule", "drop rule -1", "drop rule 00", "drop rule 01",
                 "drop rule x", "drop rule 1234567890", "drop rule 0 1", "drop rule ", "drop mode ding", "drop hall cat",
                 "drop  rule 0", "keep rule 0", "keep bell ding", "undo", "redo", "hall", "", " ", "do thing dog walk 1")
        for value in ANY_VALUES + wrong + (["drop", "rule", "0"], ("drop rule 0",), b"drop rule 0"):
            self.assert_error(InvalidCommand, {}, live.deed, value)
            self.assertEqual(picture(live), before)
        live.redo()
        self.assert_same(live.ruled.rules, ())


class TestUndo(BellCase):

    def test_by_hand(self):
        live = live_by("mode ding up", "mode dong down")
        self.assert_error(Refused, {"at": 0}, live.redo)
        live.undo()
        self.assert_same((live.deeds, live.hall.text()), (("mode ding up",), TEXT.replace("2 any", "2 up")))
        live.undo()
        self.assert_same((live.deeds, live.hall.text()), ((), TEXT))
        self.assert_error(Refused, {"at": 0}, live.undo)
        live.redo()
        self.assert_same(live.deeds, ("mode ding up",))
        live.redo()
        self.assert_same(live.deeds, ("mode ding up", "mode dong down"))
        self.assert_error(Refused, {"at": 0}, live.redo)

    def test_a_deed_forgets(self):
        live = live_by("mode ding up", "mode dong down")
        live.undo()
        live.undo()
        live.deed("drop bell ding")
        before = picture(live)
        self.assert_error(Refused, {"at": 0}, live.redo)
        self.assertEqual(picture(live), before)
        self.assert_same(live.deeds, ("drop bell ding",))
        # What was refused forgets nothing.
        live.undo()
        self.assert_error(Refused, {"at": 0}, live.deed, "drop bell owl")
        self.assert_error(InvalidCommand, {}, live.deed, "drop owl")
        live.redo()
        self.assert_same(live.deeds, ("drop bell ding",))

    def test_ahead_of_any_deed(self):
        live = Live(HALL)
        before = picture(live)
        self.assert_error(Refused, {"at": 0}, live.undo)
        self.assert_error(Refused, {"at": 0}, live.redo)
        self.assertEqual(picture(live), before)

    def test_changed_by_names(self):
        live = live_by("bell tick at cat 2 any")
        two = ((-2, 1), 1)
        self.assert_same(live.changed, ((), ((two, ("tick",)),)))
        self.assert_same(live.row[0], (two, ("ding", "tick")))
        live.deed("mode ding down")
        self.assert_same(live.changed, (((two, ("ding",)),), ()))
        live.deed("bend cat run 0 2")
        self.assert_same(live.changed, (((two, ("tick",)), (FOUR, ("dong",))),
                                        ((((-1, 1), 1), ("tick",)), (two, ("dong",)))))
        live.undo()
        self.assert_same(live.changed, (((((-1, 1), 1), ("tick",)), (two, ("dong",))),
                                        ((two, ("tick",)), (FOUR, ("dong",)))))
        live.deed("way cat hop 7")
        self.assert_same(live.changed, ((), ()))


class TestTogether(BellCase):

    def test_any_deeds(self):
        rng = source(460)
        counts = {"done": 0, "refused": 0}
        for _ in range(12):
            live, first = Live(HALL), HALL
            for _ in range(25):
                row, before = live.row, picture(live)
                deed = self.some_deed(rng)
                try:
                    if deed in ("undo", "redo"):
                        (live.undo if deed == "undo" else live.redo)()
                    else:
                        live.deed(deed)
                    counts["done"] += 1
                except Refused as error:
                    self.assertEqual(error.at, 0)
                    self.assertEqual(picture(live), before)
                    counts["refused"] += 1
                    continue
                self.assert_same(live.changed, (known_lost(row, live.row), known_lost(live.row, row)))
            self.check_new(first, live)
        self.assertGreater(min(counts.values()), 50)

    def check_new(self, first, live):
        """The attributes but changed are those of a new Live behind the deeds that stand."""
        other = Live(first)
        for deed in live.deeds:
            other.deed(deed)
        self.assert_same((other.hall.text(), other.ruled.text(), other.deeds, other.row, other.tale),
                         (live.hall.text(), live.ruled.text(), live.deeds, live.row, live.tale))
        run = Run(live.ruled)
        self.assert_same((run.row, run.tale), (live.row, live.tale))

    def some_deed(self, rng):
        thing, other = rng.sample(["cat", "dog"], 2)
        way, bell = rng.choice(["run", "sit", "hop"]), rng.choice(["ding", "dong", "tick"])
        curve = " ".join(str(one) for one in some_curve(rng, rng.randint(0, 2), 5))
        return rng.choice([
            f"thing {thing} {way} {curve}", f"way {thing} {way} {curve}", f"bend {thing} {way} {curve}",
            f"bell {bell} at {thing} {rng.randint(-5, 5)} any", f"bell {bell} meet {thing} {other} any",
            f"mode {bell} {rng.choice(['up', 'any', 'touch'])}", f"when {bell} turn {thing} {way}",
            f"when {bell} while {thing} {way} turn {other} {way}", f"drop thing {thing}", f"drop way {thing} {way}",
            f"drop bell {bell}", f"drop rule {rng.randint(0, 2)}", "undo", "undo", "redo", "redo"])

    def test_deeds_refused_as_halls_and_rules_are(self):
        # A deed is refused exactly if the hall, or its rules, can't be made.
        for deed, call in (("bell x at owl 1 any", lambda: Hall.read(TEXT + "\nbell x at owl 1 any")),
                           ("bell ding at cat 1 any", lambda: Hall.read(TEXT + "\nbell ding at cat 1 any")),
                           ("when owl turn cat sit", lambda: Ruled.read(HALL, "when owl turn cat sit"))):
            with self.assertRaises((InvalidHall, InvalidRule)):
                call()
            self.assert_error(Refused, {"at": 0}, Live(HALL).deed, deed)
        self.assertFalse(issubclass(NoName, BellError))

    def test_lives_are_apart(self):
        one, other = Live(HALL), Live(HALL)
        one.deed("drop bell ding")
        self.assert_same(other.tale, (("ding",), ("dong",)))
        self.assert_same(HALL.text(), TEXT)

    def test_greatest(self):
        rng = source(461)
        things = [(name, tuple((way, some_curve(rng, 4, 99)) for way in "uvw")) for name in "abc"]
        bells = [("k", "near", ("a", "b", 9), "any"), ("l", "mid", ("a", "b", "c"), "any"),
                 ("m", "near", ("b", "c", 99), "any"), ("n", "near", ("a", "c", 50), "any")]
        live = Live(Hall(things, bells))
        for at in range(20):
            self.assert_soon(2, live.deed, f"bend {'abc'[at % 3]} {'uvw'[at % 2]} {at} -{at + 3} 40 -{at + 1} 3")
            if at < 6:
                self.assert_soon(2, live.deed, f"when {'klmn'[at % 4]} turn {'abc'[at % 3]} {'vwu'[at % 3]}")
        for _ in range(26):
            self.assert_soon(2, live.undo)
        self.assert_same(live.deeds, ())


if __name__ == "__main__":
    unittest.main()
