"""Promise [95]: sheets, each kind by the parts that tell its value, and never both of two kinds."""

import unittest

from curvebells.alike import parting_index
from curvebells.blind import blind_sure
from curvebells.checker import sheet_holds, wrong_sheets
from curvebells.cuts import count_zeros, cuts_of
from curvebells.halls import Hall
from curvebells.handles import Handle
from curvebells.made import heights_degree, heights_fault, heights_hall, own_hall
from curvebells.papers import place_paper, sign_paper
from curvebells.places import place_order, place_sign, places_of, ratio_place
from curvebells.pools import never_tree, serving_rules
from curvebells.rooms import Rooms, join_circle, some_weave
from curvebells.rules import Ruled
from curvebells.runs import Run, run_paper
from curvebells.sayings import Band, ever_holds, labels_of
from curvebells.silent import blame_worths, first_laying, least_blame, stuck_at
from curvebells.stairs import Stair
from curvebells.stamps import join_road, step_relation, three_weaves
from curvebells.starts import alike_hands, alike_paper
from curvebells.stays import stay_holds, stay_paper
from curvebells.tables import table_holds, table_paper
from curvebells.tones import lots_matched
from curvebells.turners import Game, sure_plan
from curvebells.valid import in_all_halls
from curvebells.watchers import common_chain, common_points, house_points
from curvebells.weaves import avoiding_weave, meeting_barred, meeting_weave, wish_fence
from curvebells.wishes import Wish, wish_denied, wish_rings
from tests.helpers import ANY_VALUES, BellCase, shape_of, some_curve, some_known_place, source
from tests.test_alike import near_tale, some_tale
from tests.test_pools import some_or_lively, some_tale_wish
from tests.test_rooms import some_rooms
from tests.test_runs import EXAMPLE, RULED
from tests.test_stamps import coming_rooms, steps_of
from tests.test_turners import GAME, some_game, some_wish
from tests.test_valid import some_free
from tests.test_watchers import HOUSES, some_houses, some_of, some_watchers
from tests.test_weaves import all_standings

ROWS = (("before", "same"), ("sign",), ("zeros",), ("table",), ("once", "never"), ("valid",), ("run",), ("rules", "no rules"),
        ("hands",), ("sure", "not sure"), ("blind", "not blind"), ("weave", "circle"), ("road", "open"), ("meets", "barred"),
        ("passes by", "fence"), ("stay",), ("common", "chain"), ("laid", "stuck"), ("cheaper", "not cheaper"),
        ("parted", "alike"), ("matched",), ("heights", "no heights"))
KINDS = [kind for row in ROWS for kind in row]
# Where the table of [95] has sequences in the question.
SEQUENCES = {"table": (0, 1), "sure": (2,), "not sure": (2,), "blind": (3,), "not blind": (3,), "meets": (1,), "barred": (1,),
             "passes by": (1,), "fence": (1,), "common": (0, 1, 2), "chain": (0, 1, 2), "parted": (2,), "alike": (2,)}

ROOT, HALF = ((-2, 0, 1), 2), ((-3, 2), 1)
SAME = ((0, -2, 0, 1), 3)
CURVES = ((-2, 0, 1), (-1, 1))
BAND = Band(Hall.read("thing cat\nway run 0 0 1\nbell ding at cat 1 any\nbell dong at cat 2 any"))
ABOVE = Stair([("above", "cat", 1)])
NEVER = Stair([("above", 0, "cat")])
CHOOSER = Game(GAME.hall, [("ann", ["cat"], ["ding"]), ("bob", ["dog"], ["ding"])])
ROOMS = Rooms([("a", (("d",), ("e",))), ("b", (("f",),))], (), [(("a", 1), ("b", 1))])
STUCK = Rooms(ROOMS.rooms, [(("a", 1), ("b", 1))], ROOMS.calls)
HANDLE = Handle(Hall.read("thing cat\nway run 1 0 1\nbell ding at cat 0 any"), "cat", 1)
TALE, HEARD = (("x",), ("x", "y"), ("y",)), (("x",), ("y",))


def sheets_by_parts():
    """A sheet of each kind that holds, by what the parts tell."""
    never = wish_rings("tick", 3)
    dong = wish_rings("dong")
    labels = labels_of(BAND, ABOVE)
    tock = wish_rings("tock", 2)
    lot = serving_rules(RULED, tock)[0]
    some = ((0, 1), (0, 2), (1, 2))
    worths = blame_worths(TALE, HEARD, 1, 2)
    return [
        ("before", (ROOT, HALF), place_paper(ROOT, HALF)), ("same", (ROOT, SAME), place_paper(ROOT, SAME)),
        ("sign", ((-3, 2), ROOT, -1), sign_paper((-3, 2), ROOT)), ("zeros", ((-2, 0, 1), 2), cuts_of((-2, 0, 1))),
        ("table", (CURVES, table_holds(CURVES, table_paper(CURVES))), table_paper(CURVES)),
        ("once", (BAND, ABOVE), labels), ("never", (BAND, NEVER), labels_of(BAND, NEVER)),
        ("valid", (Stair.read("above a 0\nuntil 0 0\nnot 0\nor 1 2"),),
         in_all_halls(Stair.read("above a 0\nuntil 0 0\nnot 0\nor 1 2"))[1]),
        ("run", (RULED, Run(RULED).tale), run_paper(RULED)),
        ("rules", (RULED, tock), (lot, run_paper(RULED.only(lot)))), ("no rules", (RULED, never), never_tree(RULED, never)),
        ("hands", (RULED, RULED), alike_paper(RULED, RULED)),
        ("sure", (CHOOSER, dong, ("ann",), None), sure_plan(CHOOSER, dong, ("ann",))[1]),
        ("not sure", (CHOOSER, dong, ("bob",), 2), sure_plan(CHOOSER, dong, ("bob",), 2)[1]),
        ("blind", (CHOOSER, dong, "ann", ()), blind_sure(CHOOSER, dong, "ann", ())[1]),
        ("not blind", (CHOOSER, dong, "bob", ("tick",)), blind_sure(CHOOSER, dong, "bob", ("tick",))[1]),
        ("weave", (ROOMS,), some_weave(ROOMS)), ("circle", (STUCK,), join_circle(STUCK)),
        ("road", (ROOMS, ("a", 1), ("b", 1)), join_road(ROOMS, ("a", 1), ("b", 1))),
        ("open", (ROOMS, ("a", 2), ("b", 1)), three_weaves(ROOMS, ("a", 2), ("b", 1))),
        ("meets", (ROOMS, (("a", 3), ("b", 1))), meeting_weave(ROOMS, (("a", 3), ("b", 1)))),
        ("barred", (ROOMS, (("a", 0), ("b", 2))), meeting_barred(ROOMS, (("a", 0), ("b", 2)))),
        ("passes by", (ROOMS, ((3, 1), (3, 0))), avoiding_weave(ROOMS, ((3, 1), (3, 0)))),
        ("fence", (ROOMS, ((1, 0),)), wish_fence(ROOMS, ((1, 0),))),
        ("stay", (HANDLE, (-4, 1), (-3, 1), (("ding",), ("ding",))), stay_paper(HANDLE, (-4, 1), (-3, 1))),
        ("common", (HOUSES, (("x",),), some, (0, 1)), common_points(HOUSES, (("x",),), some)),
        ("chain", (HOUSES, (("x",), ("y",)), some, (0, 1)), common_chain(HOUSES, (("x",), ("y",)), some, (0, 1))),
        ("laid", (TALE, HEARD), first_laying(TALE, HEARD)), ("stuck", (HEARD, TALE), stuck_at(HEARD, TALE)),
        ("cheaper", (TALE, HEARD, 1, 2, 3), least_blame(TALE, HEARD, 1, 2)[1]),
        ("not cheaper", (TALE, HEARD, 1, 2, 2), worths),
        ("parted", (TALE, HEARD, ("x", "y")), parting_index(TALE, HEARD, ("x", "y"))),
        ("alike", (HEARD, (("x", "z"), ("y",)), ("x", "y")), None), ("matched", (HEARD, HEARD[::-1]), (1, 0)),
        ("heights", (HEARD,), heights_hall(HEARD)), ("no heights", ((("x",), ("x", "y")),), ("lot", 1)),
    ]


SHEETS = sheets_by_parts()


def other_kind(kind):
    """The other kind in this one's row, or None."""
    row = next(row for row in ROWS if kind in row)
    return next((one for one in row if one != kind), None)


MORE_VALUES = {"zeros": (((1, 2), (3, 4)),), "laid": ((1, 2), (0, 2)), "alike": (None,),
               "chain": ((),)}


def is_value_of(kind, value):
    """Whether some other value than the told one is right as well."""
    return any(value == one and shape_of(value) == shape_of(one) for one in MORE_VALUES.get(kind, ()))


def bent_leaves(value):
    """The value with one bool for an integer, or the other way about, or one list for a tuple, wherever that is."""
    if isinstance(value, tuple):
        yield list(value)
        for at, one in enumerate(value):
            for bent in bent_leaves(one):
                yield value[:at] + (bent,) + value[at + 1:]
    elif isinstance(value, bool):
        yield int(value)
    elif isinstance(value, int) and value in (0, 1):
        yield bool(value)


class TestKinds(BellCase):

    def test_each_kind(self):
        self.assertEqual([kind for kind, _, _ in SHEETS], KINDS)
        for kind, question, value in SHEETS:
            self.assertTrue(value is not None or kind == "alike")
            self.assert_same(sheet_holds(kind, question, value), True)
            self.assert_same(sheet_holds(kind=kind, question=question, value=value), True)
            other = other_kind(kind)
            if other is not None:
                self.assert_same(sheet_holds(other, question, value), False)

    def test_wrong_kinds(self):
        for kind, question, value in SHEETS:
            for wrong in ANY_VALUES + (kind + " ", kind.upper(), (kind,), [kind], "no " + kind, "before same"):
                self.assert_same(sheet_holds(wrong, question, value), False)
            for beside in KINDS:
                told = sheet_holds(beside, question, value)
                self.assertIsInstance(told, bool)
                if told:
                    self.assertIn(beside, (kind, "laid", "matched", "passes by", "weave", "meets"))

    def test_wrong_values(self):
        for kind, question, value in SHEETS:
            bent = [value[:-1], value[1:], value + (None,), list(value)] if isinstance(value, tuple) and value else []
            for wrong in ANY_VALUES + tuple(bent):
                told = sheet_holds(kind, question, wrong)
                self.assertIsInstance(told, bool)
                # Of an empty paper, or one with more than needed, the kinds' own tests tell.
                if wrong not in bent:
                    if kind == "common" and wrong == ():
                        continue
                    if kind == "passes by" and wrong == ():
                        continue
                    self.assertEqual(told, wrong.__class__ is value.__class__ and (
                        wrong == value or is_value_of(kind, wrong)), (kind, wrong))
            for at in range(len(value)) if isinstance(value, tuple) else ():
                for wrong in ANY_VALUES:
                    told = sheet_holds(kind, question, value[:at] + (wrong,) + value[at + 1:])
                    self.assertIsInstance(told, bool)

    def test_wrong_questions(self):
        for kind, question, value in SHEETS:
            self.assert_same(sheet_holds(kind, list(question), value), False)
            self.assert_same(sheet_holds(kind, question + (None,), value), False)
            self.assert_same(sheet_holds(kind, question[:-1], value), False)
            self.assert_same(sheet_holds(kind, question[1:], value), False)
            for wrong in ANY_VALUES:
                # A curve and a number are any values, too.
                self.assert_same(sheet_holds(kind, wrong, value), kind == "zeros" and wrong in (
                    ((0, 1), 1), ((-1, 1), 1), question) and wrong.__class__ is tuple)
                for at in range(len(question)):
                    told = sheet_holds(kind, question[:at] + (wrong,) + question[at + 1:], value)
                    self.assertIsInstance(told, bool)
                    if told and not (wrong.__class__ is question[at].__class__ and wrong == question[at]):
                        self.check_right(kind, at, wrong, question)

    def check_right(self, kind, at, wrong, question):
        """The few any values that are as good as what stood there."""
        fine = {("sure", 3), ("not sure", 3), ("stuck", 1), ("cheaper", 2), ("cheaper", 3), ("cheaper", 4), ("not cheaper", 2),
                ("not cheaper", 3), ("not cheaper", 4), ("passes by", 1), ("chain", 2), ("chain", 3), ("common", 3), ("common", 1), ("common", 2),
                ("zeros", 0), ("sign", 0), ("sign", 1), ("before", 0), ("before", 1), ("same", 0), ("blind", 3), ("not blind", 3),
                ("alike", 2), ("parted", 2), ("chain", 1), ("same", 1), ("no rules", 1), ("not sure", 1), ("not blind", 1)}
        self.assertIn((kind, at), fine, wrong)
        self.assertNotIsInstance(wrong, bool)

    def test_lists(self):
        for kind, question, value in SHEETS:
            for at, one in enumerate(question):
                if isinstance(one, tuple):
                    told = question[:at] + (list(one),) + question[at + 1:]
                    self.assert_same(sheet_holds(kind, told, value), at in SEQUENCES.get(kind, ()))
            if isinstance(value, tuple):
                self.assert_same(sheet_holds(kind, question, list(value)), False)

    def test_bools_and_lists_within(self):
        for kind, question, value in SHEETS:
            for bent in bent_leaves(value):
                self.assert_same(sheet_holds(kind, question, bent), False)
            for bent in bent_leaves(question):
                told = isinstance(bent, tuple) and any(isinstance(bent[at], list) for at in SEQUENCES.get(kind, ()))
                self.assert_same(sheet_holds(kind, bent, value), told)

    def test_wrong_sheets(self):
        self.assert_same(wrong_sheets(SHEETS), ())
        self.assert_same(wrong_sheets(sheets=tuple(SHEETS) * 2), ())
        self.assert_same(wrong_sheets([]), ())
        self.assert_same(wrong_sheets(ANY_VALUES), tuple(range(len(ANY_VALUES))))
        mixed = [SHEETS[0], None, list(SHEETS[1]), SHEETS[2], SHEETS[3][:2], SHEETS[4] + (0,), ("same",) + SHEETS[0][1:]]
        self.assert_same(wrong_sheets(mixed), (1, 2, 4, 5, 6))


class TestByHand(BellCase):

    def check(self, kind, question, good, bad):
        for value in good:
            self.assert_same(sheet_holds(kind, question, value), True)
        for value in bad:
            self.assert_same(sheet_holds(kind, question, value), False)

    def test_places(self):
        paper = place_paper(HALF, ROOT)
        self.assertEqual(paper[0], "more")
        self.check("before", (HALF, ROOT), (), (paper, ("less",) + paper[1:]))
        self.check("before", (ROOT, SAME), (), (place_paper(ROOT, SAME),))
        self.check("sign", ((-3, 2), ROOT, 1), (), (sign_paper((-3, 2), ROOT),))
        self.check("sign", ((), ROOT, 0), (sign_paper((), ROOT),), ())
        self.check("sign", ((), ROOT, False), (), (sign_paper((), ROOT),))
        self.check("sign", ((0, 2), ROOT, 1), (sign_paper((0, 2), ROOT),), ())
        self.check("sign", ((0, 2), ROOT, True), (), (sign_paper((0, 2), ROOT),))
        self.check("zeros", ((-2, 0, 1), 2), (((0, 1),), ((-1, 1), (1, 1))), ((), ((5, 1),), [(0, 1)]))
        self.check("zeros", ((-2, 0, 1), 1), (), (((0, 1),),))
        self.check("zeros", ((-2, 0, 1), True), (), (((0, 1),),))
        self.check("zeros", ((-1, 1), 1), (((0, 1),), ((1, 1),)), ((),))
        self.check("zeros", ((-1, 1), True), (), (((0, 1),), ((1, 1),)))
        # Not plain: twice this curve, a constant, a double zero.
        for curve in ((-4, 0, 2), (1,), (), (1, -2, 1)):
            for number in (0, 1, 2):
                self.check("zeros", (curve, number), (), (((0, 1),), ((1, 1),), ((-1, 1), (1, 1))))
        self.check("zeros", ((1, 0, 1), 0), (((0, 1),),), ())

    def test_tables(self):
        paper = table_paper(CURVES)
        rows = table_holds(CURVES, paper)
        self.check("table", (CURVES, list(rows)), (paper,), (None,))
        for wrong in (rows[::-1], rows[:1], rows + rows[:1], (), tuple(list(row) for row in rows),
                      (rows[0][:-1] + (True,), rows[1])):
            self.check("table", (CURVES, wrong), (), (paper,))
        self.check("table", ((), ()), (((), ()),), (None, ()))
        self.check("table", (CURVES + (None,), rows), (), (paper,))

    def test_sayings(self):
        labels = labels_of(BAND, ABOVE)
        self.check("never", (BAND, ABOVE), (), (labels,))
        self.check("once", (BAND, NEVER), (), (labels_of(BAND, NEVER),))
        owl = Stair([("rings", "owl")])
        self.check("never", (BAND, owl), (), (((), ((False,),)),))
        self.check("once", (BAND.hall, ABOVE), (), (labels,))
        self.check("valid", (Stair([("rises", "a")]),), (), ((), None))
        self.check("valid", (Stair([("above", "a", 0)]),), (), ((), ((((1,), (), False),))))

    def test_rules(self):
        paper = run_paper(RULED)
        self.check("run", (RULED, Run(RULED).tale[:1]), (), (paper,))
        self.check("run", (RULED, list(Run(RULED).tale)), (), (paper,))
        self.check("run", (Ruled(EXAMPLE), Run(Ruled(EXAMPLE)).tale), (run_paper(Ruled(EXAMPLE)),), (paper,))
        tock = wish_rings("tock", 2)
        self.check("rules", (RULED, tock), (((0, 1), paper),),
                   (((0,), paper), ((1, 0), paper), ((0, 1, 2), paper), [(0, 1), paper], ((0, 1), paper, 0), ((0, True), paper),
                    ((0, 1),), paper, ([0, 1], paper), ((), run_paper(Ruled(EXAMPLE)))))
        self.check("rules", (RULED, wish_rings("tick")), (((0, 1), paper), ((), run_paper(Ruled(EXAMPLE)))), (((0,), paper),))
        self.check("rules", (RULED, wish_rings("owl")), (), (((0, 1), paper),))
        self.check("no rules", (RULED, wish_rings("tick")), (), (never_tree(RULED, wish_rings("tick", 3)),))

    def test_hands(self):
        paper = alike_paper(RULED, RULED)
        again = Ruled(Hall.read(EXAMPLE.text()), RULED.rules)
        self.check("hands", (RULED, again), (paper,), (paper[1:],))
        other = Ruled(Hall.read(EXAMPLE.text().replace("6", "7")), RULED.rules)
        self.check("hands", (RULED, other), (), (paper, ()))
        self.check("hands", (RULED, Ruled(EXAMPLE)), (), (paper,))
        # Twice as high, twice as fast: all rings alike, but it is another hall.
        double = Hall.read(EXAMPLE.text().replace("0 1", "0 2").replace("10 -1", "20 -2").replace("t 6", "t 12").replace("t 3", "t 6"))
        double = Ruled(double, RULED.rules)
        self.assert_same(alike_hands(RULED, double), None)
        self.check("hands", (RULED, double), (), (paper, alike_paper(RULED, double)))

    def test_games(self):
        dong = wish_rings("dong")
        plan = sure_plan(CHOOSER, dong, ("ann",))[1]
        for group, by in ((["ann"], None), (("ann", "ann"), 3), (("ann", "bob"), 3), (("ann",), 9)):
            self.assert_same(sheet_holds("sure", (CHOOSER, dong, group, by), sure_plan(CHOOSER, dong, group, by)[1]), True)
        for group, by in (("ann", None), (("owl",), None), (("ann", None), None), (None, None), (("ann",), True),
                          (("ann",), -1), (("ann",), "2"), (("ann",), 1)):
            self.check("sure", (CHOOSER, dong, group, by), (), (plan,))
        self.check("not sure", (CHOOSER, dong, ("owl",), None), (), ((), plan))
        self.check("not sure", (CHOOSER, dong, (), 0), ((),), (None,))
        self.check("sure", (CHOOSER, wish_denied(wish_rings("owl")), (), None), (), ((),))
        self.check("sure", (CHOOSER, wish_denied(wish_rings("dong", 2)), (), None), ((),), ())
        self.check("sure", (CHOOSER, wish_denied(wish_rings("dong", 2)), "", None), (), ((),))
        for hand, heard in (("ann", "ding"), ("owl", ()), ("ann", ("owl",)), ("ann", None), (None, ())):
            self.check("blind", (CHOOSER, dong, hand, heard), (), (((("ding",),), (0,)), (), ((((("ding",),)), (0,)),)))
            self.check("not blind", (CHOOSER, dong, hand, heard), (), ((),))

    def test_open(self):
        a2, b1 = ("a", 2), ("b", 1)
        ahead, at_once, behind = three_weaves(ROOMS, a2, b1)
        self.check("open", (ROOMS, a2, b1), ((ahead, at_once, behind),),
                   ((behind, at_once, ahead), (ahead, ahead, behind), (ahead, at_once), (at_once, at_once, behind),
                    (ahead, at_once, at_once), [ahead, at_once, behind], (ahead, at_once, behind[:1]), (ahead, at_once, None)))
        self.check("open", (ROOMS, b1, a2), ((behind, at_once, ahead),), ((ahead, at_once, behind),))
        self.check("open", (ROOMS, ("a", 9), b1), (), ((ahead, at_once, behind),))
        self.check("open", (STUCK, a2, b1), (), ((ahead, at_once, behind),))
        self.check("road", (STUCK, ("a", 1), a2), (), ((("a", 1), a2),))

    def test_rooms(self):
        for wrong in ([("a", 9)], (), (("a", 3), ("a", 3)), "a"):
            self.check("meets", (ROOMS, wrong), (), (some_weave(ROOMS),))
        self.check("meets", (ROOMS, (("a", 3), ("b", 1))), (), (three_weaves(ROOMS, ("a", 2), ("b", 1))[0],))
        self.check("passes by", (ROOMS, ((9, 9),)), (), (some_weave(ROOMS),))
        self.check("passes by", (ROOMS, ((3, 1),)), (), (some_weave(ROOMS),))
        self.check("weave", (STUCK,), (), (some_weave(ROOMS), ((("a", 1), ("b", 1)), (("a", 2),))))
        self.check("circle", (ROOMS,), (), (join_circle(STUCK),))

    def test_stays(self):
        paper = stay_paper(HANDLE, (-4, 1), (-3, 1))
        self.check("stay", (HANDLE, (-4, 1), (-3, 1), (("ding",),)), (), (paper,))
        self.check("stay", (HANDLE, (-4, 1), (-3, 1), None), (), (paper, (), None))
        self.check("stay", (HANDLE, (-3, 1), (-4, 1), (("ding",), ("ding",))), (), (paper, ()))
        self.check("stay", (HANDLE, (-3, 1), (-3, 1), ()), (), ((),))

    def test_houses(self):
        some, ear = ((0, 1), (0, 2), (1, 2)), (("x",),)
        self.check("common", (HOUSES, ear, some, (0, 1)), (some,),
                   (some[:2], some[1:], some[::-1], some + ((0, 2),), list(some), (), some + ((1, 9),), None))
        self.check("common", (HOUSES, ear, some, (1, 1)), (), (some, ()))
        self.check("common", (HOUSES, ear, some[:2], (0, 1)), (), (some, some[:2]))
        self.check("common", (HOUSES, (("x", "y"),), some, (0, 1)), (((0, 1),), ((0, 1), (1, 2))), (((0, 2),),))
        both = (("x",), ("y",))
        # Closed for the one, and not for the other.
        self.check("common", (HOUSES, both, some, (0, 1)), (), (some,))
        self.check("common", (HOUSES, both[::-1], some, (0, 1)), (), (some,))
        self.check("chain", (HOUSES, both, some, (0, 1)), (((1, (0, 0)),), ((0, (1, 2)), (1, (1, 1))), ((0, (0, 1)), (1, (1, 0)))),
                   ((), ((0, (0, 2)),), ((0, (0, 0)),), ((2, (0, 0)),), ((True, (0, 0)),), ((1, (0, 0), 0),), ([1, (0, 0)],),
                    [(1, (0, 0))], ((1, [0, 0]),), ((1, (0, 9)),), ((-1, (0, 0)),), None, ((1, (1, 1)),)))
        self.check("chain", (HOUSES, both, some, (0, 0)), ((), ((1, (0, 1)), (1, (0, 0)))), (((1, (0, 1)),),))
        for houses in ((), None, (BAND, None), BAND, ((BAND,),)):
            self.check("common", (houses, ear, some, (0, 1)), (), (some,))
        for watchers in ((), ("x",), None, (("y", "x"),)):
            self.check("common", (HOUSES, watchers, some, (0, 1)), (), (some,))
        self.check("chain", (HOUSES, both, some, (0, 9)), (), ((),))
        self.check("chain", (HOUSES, both, some[::-1], (0, 0)), (), ((),))

    def test_layings(self):
        self.check("laid", (TALE, HEARD), ((0, 1), (0, 2), (1, 2)),
                   ((2, 1), (0, 0), (0,), (0, 1, 2), [0, 1], (0, 3), (-1, 1), (False, True), (0, None), (), None))
        self.check("laid", (TALE, list(HEARD)), (), ((0, 1),))
        self.check("stuck", (TALE, HEARD), (), (None, 0, 1, 2))
        self.check("stuck", (HEARD, TALE), (1,), (0, 2, None, True))
        self.check("laid", ((), ()), ((),), (None,))

    def test_blame(self):
        price, telling = least_blame(TALE, HEARD, 1, 2)
        self.assertEqual(price, 2)
        self.check("cheaper", (TALE, HEARD, 1, 2, 3), (telling,), ())
        self.check("cheaper", (TALE, HEARD, 1, 2, 2), (), (telling,))
        good = ((0, 0), (1, None), (2, 1))
        self.check("cheaper", (TALE, HEARD, 1, 2, 3), (good,),
                   (good[:2], good[::-1], good + ((None, None),), list(good), ((0, 0), (1, None), [2, 1]), ((0, 0), (1, 1), (2, 1)),
                    ((0, None), (1, None), (2, 1)), ((0, 0), (1, None), (True, 1)), ((0, 0), (1, None), (2, True)), (),
                    ((0, 0), (2, 1), (1, None)), ((0, 0), (1, None), (2, 1, 0)), None, ((None, 0), (0, None), (1, None), (2, 1))))
        self.check("cheaper", (TALE, HEARD, 1, 2, 6), (((None, 0), (0, None), (1, None), (2, 1)),), ())
        self.check("cheaper", (TALE, HEARD, 1, 2, 5), (), (((None, 0), (0, None), (1, None), (2, 1)),))
        self.check("cheaper", (TALE, HEARD, -1, 2, 3), (), (good,))
        self.check("cheaper", (TALE, HEARD, 1, 2, True), (), (good,))
        worths = blame_worths(TALE, HEARD, 1, 2)
        self.check("not cheaper", (TALE, HEARD, 1, 2, 3), (), (worths,))
        self.check("not cheaper", (TALE, HEARD, 1, 2, -9), (worths,), ())
        self.check("not cheaper", (TALE, HEARD, 1, None, 2), (), (worths,))
        self.check("not cheaper", (TALE, HEARD, 1, 2, None), (), (worths,))

    def test_parted(self):
        self.check("parted", (TALE, HEARD, ["x", "y"]), (1,), (0, 2, None, True))
        self.check("parted", (TALE, TALE, ("x",)), (), (0, None, len(TALE)))
        self.check("alike", (TALE, TALE, []), (None,), (0, (), False))
        self.check("alike", (TALE, HEARD, ("x",)), (), (None,))
        self.check("alike", (TALE, TALE, "x"), (), (None,))
        self.check("alike", (TALE, TALE, (1,)), (), (None,))
        self.check("alike", (TALE, list(TALE), ("x",)), (), (None,))
        self.check("matched", (HEARD, HEARD[::-1]), ((1, 0),), ((0, 1), (1,), (1, 1), [1, 0], (True, 0), (1, 0, 2), (), (1, None)))
        self.check("matched", (HEARD + HEARD, HEARD + HEARD), ((0, 1, 2, 3), (2, 3, 0, 1), (0, 3, 2, 1)), ((0, 1), (1, 0, 3, 2)))
        self.check("matched", (HEARD, TALE), (), ((0, 2), (0, 1), (0, 1, 2)))
        self.check("matched", ((), ()), ((),), (None,))

    def test_heights(self):
        one, two = ("x", "at", ("a", 1), "any"), ("y", "at", ("a", 2), "any")
        things = [("a", (("w", (0, 1)),))]
        self.check("heights", (HEARD,), (Hall(things, (one, two)), Hall(things, (two, one)),
                                         Hall(things, (one, two, ("z", "at", ("a", -1), "any")))),
                   (Hall(things, (one,)), Hall(things, (one, two, ("z", "at", ("a", 2), "any"))),
                    Hall(things, (("x", "at", ("a", 1), "up"), two)), Hall([("a", (("w", (0, 1)), ("v", (1,))))], (one, two)),
                    Hall(things + [("b", (("w", (0, 1)),))], (one, two)), Hall(things, (one, two, ("z", "still", ("a",), "any"))),
                    own_hall(HEARD), None, Band(Hall(things, (one, two)))))
        self.check("heights", (list(HEARD),), (), (Hall(things, (one, two)),))
        self.check("heights", ((),), (Hall(things, ()),), (Hall(things, (one,)), None))
        self.check("heights", ((("x", "y"),),), (), (Hall(things, (one, ("y", "at", ("a", 1), "any"))),))
        self.check("no heights", ((("x",), ("y",), ("x", "y")),), (("lot", 2),), (("lot", 1), ["lot", 2], ("lot", True), None))
        self.check("no heights", (HEARD,), (), (None, ("end", "y"), ()))
        self.check("no heights", ((("x",), ("y",), ("z",), ("y",)),), (("end", "y"),), (("end", "x"), ("three", "y", ())))
        self.check("no heights", ("x",), (), (None,))


class TestParts(BellCase):
    """What one part tells for a question is a sheet of its kind, and none of the other kind."""

    def check(self, row, question, told, value):
        """The kind of this number in the row holds; the other one does not."""
        self.assert_same(sheet_holds(row[told], question, value), True)
        if len(row) > 1:
            self.assert_same(sheet_holds(row[1 - told], question, value), False)

    def test_places(self):
        rng = source(510)
        for _ in range(30):
            (one, _), (other, _) = some_known_place(rng, 4), some_known_place(rng, 4)
            order = place_order(one, other)
            for told in [(one, other), (other, one)] if order else [(one, other)]:
                order = place_order(*told)
                for kind, wanted in (("before", order < 0), ("same", order == 0)):
                    self.assert_same(sheet_holds(kind, told, place_paper(*told)), wanted)
            curve = some_curve(rng, rng.randint(0, 3), 5)
            for sign in (-1, 0, 1):
                self.assert_same(sheet_holds("sign", (curve, one, sign), sign_paper(curve, one)), sign == place_sign(curve, one))
            many = count_zeros(one[0])
            for number in range(5):
                self.assert_same(sheet_holds("zeros", (one[0], number), cuts_of(one[0])), number == many)
            self.assertEqual(len(places_of(one[0])), many)

    def test_tables_and_sayings(self):
        rng = source(511)
        for _ in range(15):
            curves = [some_curve(rng, rng.randint(0, 3), 5) for _ in range(rng.randint(0, 3))]
            paper = table_paper(curves)
            self.check(("table",), (curves, table_holds(curves, paper)), 0, paper)
        for _ in range(30):
            stair = some_free(rng, 5)
            told = in_all_halls(stair)
            if told[0]:
                self.check(("valid",), (stair,), 0, told[1])
            else:
                band = Band(told[1])
                self.check(("once", "never"), (band, Stair(stair.rows + (("not", len(stair.rows) - 1),))), 0,
                           labels_of(band, Stair(stair.rows + (("not", len(stair.rows) - 1),))))
            band = Band(Hall([(name, (("w", some_curve(rng, 2, 3)),)) for name in "ab"], ()))
            holds = ever_holds(band, stair)[0]
            self.check(("once", "never"), (band, stair), 0 if holds else 1, labels_of(band, stair))

    def test_rules(self):
        rng = source(512)
        for _ in range(25):
            ruled, wish = some_or_lively(rng, 3), some_tale_wish(rng)
            self.check(("run",), (ruled, Run(ruled).tale), 0, run_paper(ruled))
            serving = serving_rules(ruled, wish)
            if serving is None:
                self.check(("rules", "no rules"), (ruled, wish), 1, never_tree(ruled, wish))
            else:
                self.check(("rules", "no rules"), (ruled, wish), 0, (serving[0], run_paper(ruled.only(serving[0]))))
            other = Ruled(ruled.hall, ruled.rules[::-1])
            if alike_hands(ruled, other) is None:
                self.check(("hands",), (ruled, other), 0, alike_paper(ruled, other))

    def test_games(self):
        rng = source(513)
        for _ in range(25):
            game, bells = some_game(rng)
            wish = some_wish(rng, bells)
            names = [hand[0] for hand in game.hands]
            group, by = rng.sample(names, rng.randint(0, len(names))), rng.choice([None, 0, 1, 2, 5])
            is_sure, plan = sure_plan(game, wish, group, by)
            row = ("sure", "not sure")
            self.assert_same(sheet_holds(row[1 - is_sure], (game, wish, group, by), plan), True)
            self.assertIsInstance(sheet_holds(row[is_sure], (game, wish, group, by), plan), bool)
            self.assert_same(sheet_holds(row[is_sure], (game, wish, group, by), ()) and is_sure, False)
            heard = rng.sample(bells, rng.randint(0, len(bells)))
            is_sure, value = blind_sure(game, wish, names[0], heard)
            self.assert_same(sheet_holds(("blind", "not blind")[1 - is_sure], (game, wish, names[0], heard), value), True)
            self.assertFalse(sheet_holds(("blind", "not blind")[is_sure], (game, wish, names[0], heard), value))

    def test_rooms(self):
        rng = source(514)
        for _ in range(60):
            rooms = rng.choice([some_rooms, coming_rooms])(rng)
            circle = join_circle(rooms)
            self.check(("weave", "circle"), (rooms,), 0 if circle is None else 1, circle or some_weave(rooms))
            if circle is not None:
                continue
            steps, standings = steps_of(rooms), all_standings(rooms)
            if steps:
                one, other = rng.choice(steps), rng.choice(steps)
                if step_relation(rooms, one, other) == "open":
                    self.check(("road", "open"), (rooms, one, other), 1, three_weaves(rooms, one, other))
                for pair in ((one, other), (other, one)):
                    if join_road(rooms, *pair) is not None:
                        self.check(("road", "open"), (rooms, *pair), 0, join_road(rooms, *pair))
            told = [(name, rng.randint(0, 2 * len(tale))) for name, tale in rooms.rooms]
            weave = meeting_weave(rooms, told)
            self.check(("meets", "barred"), (rooms, told), int(weave is None), weave if weave is not None
                       else meeting_barred(rooms, told))
            wish = rng.sample(standings, min(len(standings), rng.choice([0, 1, 4, 9])))
            weave = avoiding_weave(rooms, wish)
            if weave is None:
                self.assert_same(sheet_holds("fence", (rooms, wish), wish_fence(rooms, wish)), True)
                self.assert_same(sheet_holds("passes by", (rooms, wish), some_weave(rooms)), False)
            else:
                self.check(("passes by", "fence"), (rooms, wish), 0, weave)

    def test_houses(self):
        rng = source(515)
        for _ in range(40):
            houses, watchers = some_houses(rng), some_watchers(rng)
            points = house_points(houses)
            some, point = some_of(rng, points, 0.8), rng.choice(points)
            chain = common_chain(houses, watchers, some, point)
            common = common_points(houses, watchers, some)
            told = (houses, watchers, some, point)
            self.assert_same(sheet_holds("common", told, common), chain is None)
            self.assert_same(sheet_holds("chain", told, () if chain is None else chain), chain is not None)

    def test_tales(self):
        rng = source(516)
        for _ in range(80):
            lots = some_tale(rng, "xyz")
            heard = near_tale(rng, lots, "xyz")
            stuck = stuck_at(lots, heard)
            self.check(("laid", "stuck"), (lots, heard), 0 if stuck is None else 1, first_laying(lots, heard)
                       if stuck is None else stuck)
            missing, extra, price = rng.randint(0, 3), rng.randint(0, 3), rng.randint(-1, 6)
            least, telling = least_blame(lots, heard, missing, extra)
            worths = blame_worths(lots, heard, missing, extra)
            told = (lots, heard, missing, extra, price)
            self.assert_same(sheet_holds("cheaper", told, telling), least < price)
            self.assert_same(sheet_holds("not cheaper", told, worths), least >= price)
            names = rng.sample("wxyz", rng.randint(0, 3))
            index = parting_index(lots, heard, names)
            self.check(("parted", "alike"), (lots, heard, names), int(index is None), index)
            matched = lots_matched(lots, heard)
            if matched is not None:
                self.check(("matched",), (lots, heard), 0, matched)
            fault = heights_fault(lots)
            if fault is not None:
                self.check(("heights", "no heights"), (lots,), 1, fault)
            elif heights_degree(lots) <= 4:
                self.check(("heights", "no heights"), (lots,), 0, heights_hall(lots))

    def test_stays(self):
        for low, high in (((-9, 1), (-5, 1)), ((-4, 1), (-3, 1)), ((-1, 1), (7, 2)), ((-3, 1), (0, 1))):
            paper = stay_paper(HANDLE, low, high)
            if paper is not None:
                tale = stay_holds(HANDLE, low, high, paper)
                self.check(("stay",), (HANDLE, low, high, tale), 0, paper)
                self.assert_same(sheet_holds("stay", (HANDLE, low, high, tale + tale[:1] + (("dong",),)), paper), False)
        self.assertIsInstance(Wish(1, (), ()), Wish)

    def test_ratio_places(self):
        one, other = ratio_place((1, 2)), ratio_place((2, 3))
        self.check(("before", "same"), (one, other), 0, place_paper(one, other))


if __name__ == "__main__":
    unittest.main()
