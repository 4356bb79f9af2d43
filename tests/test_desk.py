"""Promise [96]: a desk, which tells in text what the parts tell."""

import unittest

from curvebells.alike import parting_lots
from curvebells.curves import curve_text, read_curve
from curvebells.desk import Desk
from curvebells.errors import InvalidCommand, InvalidHall, InvalidText, Refused
from curvebells.halls import Hall
from curvebells.live import Live
from curvebells.rows import thin_tale
from curvebells.rules import Ruled
from tests.helpers import ANY_VALUES, BellCase, picture, some_curve, source

TEXT = "thing cat ; way run 0 1 ; way sit 9 ; bell ding at cat 2 any ; bell dong at cat 4 any"


def desk_by(*commands):
    desk = Desk()
    for command in commands:
        desk.say(command)
    return desk


def told(tale):
    return ", ".join(" ".join(lot) for lot in tale) if tale else "-"


class TestDesk(BellCase):

    def test_each_command(self):
        desk = Desk()
        self.assertIsNone(desk.live)
        self.assert_same(desk.say(command="hall " + TEXT), "ding, dong")
        self.assertIsInstance(desk.live, Live)
        self.assert_same(desk.live.hall.text(), TEXT.replace(" ; ", "\n"))
        self.assert_same(desk.say("tale"), "ding, dong")
        self.assert_same(desk.say("noticed"), "-")
        self.assert_same(desk.say("text"), TEXT)
        self.assert_same(desk.say("do when ding turn cat sit"), "ding")
        self.assert_same(desk.say("text"), TEXT + " ; when ding turn cat sit")
        self.assert_same(desk.say("noticed"), "dong")
        self.assert_same(desk.say("moment ding 1"), "zero 1 of -2 1")
        self.assert_same(desk.say("moment dong 1"), "never")
        self.assert_same(desk.say("undo"), "ding, dong")
        self.assert_same(desk.say("moment dong 1"), "zero 1 of -4 1")
        self.assert_same(desk.say("redo"), "ding")
        self.assert_same(desk.say("hear ding"), "ding")
        self.assert_same(desk.say("hear dong"), "-")
        self.assert_same(desk.say("do bell aha at cat 2 any"), "aha ding")
        self.assert_same(desk.say("hear ding owl ding"), "ding")
        self.assert_same(desk.say("hear owl"), "-")
        self.assert_same(desk.say("noticed"), "aha, dong")
        self.assert_same(desk.say("do when aha while cat run turn cat run"), "aha ding")
        self.assert_same(desk.say("text"), TEXT + " ; bell aha at cat 2 any ; when ding turn cat sit"
                         " ; when aha while cat run turn cat run")

    def test_noticed_two_names(self):
        desk = desk_by("hall thing a ; way w 0 1 ; bell x at a 1 any ; bell y at a 2 any")
        desk.say("do bend a w 3 -1")
        self.assert_same((desk.say("tale"), desk.say("noticed")), ("y, x", "x y"))
        # The first tale stays that of the beginning, whatever was done.
        desk.say("do drop bell x")
        self.assert_same(desk.say("noticed"), "x")
        desk.say("undo")
        desk.say("undo")
        self.assert_same(desk.say("noticed"), "-")
        desk.say("hall thing a ; way w 0 1 ; bell x at a 1 any")
        desk.say("do bell y at a 2 any")
        self.assert_same(desk.say("noticed"), "y")

    def test_moments(self):
        desk = desk_by("hall thing a ; way w -2 0 1 ; bell x at a 0 any ; bell y at a 2 any ; bell z at a -1 any")
        self.assert_same(desk.say("tale"), "z, x, y")
        self.assert_same(desk.say("moment x 1"), "zero 2 of -2 0 1")
        self.assert_same(desk.say("moment y 1"), "zero 2 of -4 0 1")
        for command in ("moment x 2", "moment y 99", "moment owl 1", "moment a 1"):
            self.assert_same(desk.say(command), "never")
        desk.say("do bend a w 0 6 -5 1")
        # It is nought at 2 and 3.
        self.assert_same((desk.say("moment x 1"), desk.say("moment x 2")), ("zero 2 of 0 6 -5 1", "zero 3 of 0 6 -5 1"))
        self.assert_same(desk.say("moment x 3"), "never")

    def test_no_hall(self):
        for command in ("tale", "undo", "redo", "noticed", "text", "hear ding", "moment ding 1", "do drop bell ding", "do x", "x"):
            desk = Desk()
            self.assert_error(InvalidCommand, {}, desk.say, command)
            self.assertIsNone(desk.live)

    def test_wrong_commands(self):
        for desk in (Desk(), desk_by("hall " + TEXT, "do drop bell ding", "undo")):
            before = picture(desk)
            wrong = ("hall", "Hall " + TEXT, " hall " + TEXT, "halls " + TEXT, "do", "tale ", " tale", "tale ding", "tales", "undo 1",
                     "redo ", "hear", "hear ", "hear ding ", "hear  ding", "hear 1", "hear Ding", "hear ding, dong", "noticed ",
                     "noticed ding", "text ", "text 1", "moment", "moment ", "moment ding", "moment ding ", "moment ding 0",
                     "moment ding 100", "moment ding 01", "moment ding -1", "moment ding +1", "moment ding x", "moment 1 1",
                     "moment Ding 1", "moment ding 1 1", "moment ding  1", "moment ding 1 ", "", " ", "\n", "say tale", "moments ding 1", "xyz ding 1", "ding 1",
                     "drop bell ding", "moment ding \u0661", "tale\n", "moment dingdings 1")
            for command in ANY_VALUES + wrong + (["tale"], ("tale",), b"tale"):
                self.assert_error(InvalidCommand, {}, desk.say, command)
                self.assertEqual(picture(desk), before)

    def test_errors_of_what_it_does(self):
        desk = desk_by("hall " + TEXT, "do mode ding up", "do mode ding down", "undo")
        before = picture(desk)
        for command, error, kept in (
                ("hall ", InvalidText, {"at": 0}), ("hall  ", InvalidText, {"at": 0}), ("hall x", InvalidText, {"at": 0}),
                ("hall thing cat ; way run 01", InvalidText, {"at": 1}), ("hall thing cat; way run 1", InvalidText, {"at": 0}),
                ("hall thing cat  ; way run 1", InvalidText, {"at": 0}),
                ("hall thing cat", InvalidHall, {"at": ("things", 0)}),
                ("hall bell ding at cat 1 any", InvalidHall, {"at": ("things", -1)}),
                ("hall thing cat ; way run 1 ; bell ding at dog 1 any", InvalidHall, {"at": ("bells", 0)}),
                ("do ", InvalidCommand, {}), ("do tale", InvalidCommand, {}), ("do  drop bell ding", InvalidCommand, {}),
                ("do drop bell owl", Refused, {"at": 0}), ("do drop thing cat", Refused, {"at": 0}),
                ("do thing cat a 1", Refused, {"at": 0})):
            self.assert_error(error, kept, desk.say, command)
            self.assertEqual(picture(desk), before)
        desk.say("undo")
        before = picture(desk)
        self.assert_error(Refused, {"at": 0}, desk.say, "undo")
        self.assertEqual(picture(desk), before)
        desk.say("redo")
        desk.say("redo")
        before = picture(desk)
        self.assert_error(Refused, {"at": 0}, desk.say, "redo")
        self.assertEqual(picture(desk), before)
        new = Desk()
        self.assert_error(InvalidText, {"at": 0}, new.say, "hall x")
        self.assertIsNone(new.live)

    def test_line_ends_of_a_hall(self):
        # A text may have line ends of its own, too.
        self.assert_same(Desk().say("hall thing cat\nway run 0 1 ; bell ding at cat 1 any"), "ding")

    def test_what_the_parts_tell(self):
        rng = source(530)
        for _ in range(15):
            things = " ; ".join(f"thing {name} ; way u {curve_text(some_curve(rng, rng.randint(0, 3), 6))}"
                                f" ; way v {curve_text(some_curve(rng, 1, 6))}" for name in ("cat", "dog"))
            desk, text = Desk(), f"{things} ; bell p at cat {rng.randint(-4, 4)} any ; bell q meet cat dog any"
            self.assert_same(desk.say("hall " + text), told(Live(Hall.read(text.replace(" ; ", "\n"))).tale))
            first = desk.live.tale
            for _ in range(6):
                deed = rng.choice(["do when p turn cat v", "do when q turn dog v", "do bell r at dog 1 any", "do mode q up",
                                   "do bend cat v 1 2", "undo", "redo", "do drop bell p", "do drop rule 0"])
                try:
                    self.assert_same(desk.say(deed), told(desk.live.tale))
                except Refused:
                    pass
                self.check(desk, first)

    def check(self, desk, first):
        live = desk.live
        self.assert_same(desk.say("tale"), told(live.tale))
        self.assert_same(desk.say("hear p r"), told(thin_tale(live.tale, ["p", "r"])))
        self.assert_same(desk.say("noticed"), told(parting_lots(first, live.tale)))
        rows = desk.say("text").split(" ; ")
        many = len(live.hall.text().split("\n"))
        self.assertEqual(Hall.read("\n".join(rows[:many])).text(), live.hall.text())
        self.assertEqual(Ruled.read(live.hall, "\n".join(rows[many:])).rules, live.ruled.rules)
        for name in ("p", "q", "r", "s"):
            moments = [moment for moment, lot in live.row if name in lot]
            for number, moment in enumerate(moments):
                words = desk.say(f"moment {name} {number + 1}").split(" of ")
                self.assertEqual((read_curve(words[1]), words[0]), (moment[0], f"zero {moment[1]}"))
            self.assert_same(desk.say(f"moment {name} {len(moments) + 1}"), "never")

    def test_greatest(self):
        desk = Desk()
        rows = []
        rng = source(531)
        for name in "abc":
            rows += [f"thing {name}"] + [f"way {way} {curve_text(some_curve(rng, 4, 99))}" for way in "uv"]
        rows += ["bell k near a b 9 any", "bell l mid a b c any", "bell m near b c 99 any", "bell n near a c 50 any"]
        self.assert_soon(2, desk.say, "hall " + " ; ".join(rows))
        for deed in ("do when k turn a v", "do when l turn b v", "do when m turn c v", "undo", "redo", "noticed", "tale", "text"):
            self.assert_soon(2, desk.say, deed)

    def test_desks_are_apart(self):
        one, other = desk_by("hall " + TEXT), Desk()
        self.assertIsNone(other.live)
        other.say("hall " + TEXT)
        other.say("do drop bell ding")
        self.assert_same(one.say("tale"), "ding, dong")


if __name__ == "__main__":
    unittest.main()
