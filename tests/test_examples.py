"""The examples of the document, as they stand there, and those of README.md."""

import doctest
import pathlib
import unittest

RATIOS_AND_CUTS = """
    >>> from curvebells.curves import curve_after, curve_moved
    >>> from curvebells.cuts import common_curve, curve_parts, cut_count, cuts_hold, plain_curve, sign_changes
    >>> from curvebells.ratios import simplest_ratio
    >>> simplest_ratio((1, 3), (1, 2)), simplest_ratio(None, (-7, 2)), simplest_ratio((1, 2), (1, 2))
    ((2, 5), (-4, 1), None)
    >>> curve_moved((0, 0, 1), -3), curve_after((-2, 1), (0, 0, 1))
    ((9, -6, 1), (-2, 0, 1))
    >>> plain_curve((0, 2, -4, 2)), curve_parts((0, 2, -4, 2)), common_curve((-1, 0, 1), (2, 2))
    ((0, -1, 1), ((1, (0, 1)), (2, (-1, 1))), (1, 1))
    >>> sign_changes((-2, 0, 1), (1, 1), (2, 1)), sign_changes((2, -2, 1), (0, 1), None)
    (1, 2)
    >>> cuts_hold((2, -2, 1), (0, 1), None, ((1, 1),)), cut_count((2, -2, 1), (0, 1), None, ((1, 1),))
    (True, 0)
"""

PLACES = """
    >>> from curvebells.places import moments_of, place_in, place_order, place_sides, place_sign, ratio_of
    >>> from curvebells.places import gathered_places, ratio_place, simplest_between, whole_times
    >>> from curvebells.papers import place_paper_holds, seat_holds
    >>> root = ((-2, 0, 1), 2)
    >>> moments_of((0, -2, 0, 1)), place_order(((0, -2, 0, 1), 3), root), ratio_of(((-1, 0, 4), 2))
    ((((0, -2, 0, 1), 3),), 0, (1, 2))
    >>> whole_times(root, 1000), simplest_between(root, ratio_place((3, 2))), place_sign((-3, 2), root)
    (1414, (10, 7), -1)
    >>> place_sides((4, 0, -4, 0, 1), root), place_in((4, 0, -4, 0, 1), root)
    ((1, 1), ((-2, 0, 1), 2))
    >>> gathered_places((root, ((-1, 1), 1), ((0, -2, 0, 1), 3), ((-2, 0, 1), 1)))
    ((3,), (1,), (0, 2))
    >>> seat = ((1, 1), (3, 2), ())
    >>> seat_holds(root, seat), place_paper_holds(root, ratio_place((3, 2)), ("less", seat, ((3, 2), (3, 2), ())))
    (True, True)
"""

TABLES = """
    >>> from curvebells.tables import Table, inner_place, sign_row
    >>> from curvebells.told import least_degree, told_curves, told_fault
    >>> table = Table([(-2, 0, 1), (-1, 1)])
    >>> table.moments, table.signs
    ((((-1, 1), 1), ((-2, 0, 1), 2)), ((-1, -1), (-1, 0), (-1, 1), (0, 1), (1, 1)))
    >>> sign_row(table, 0), inner_place(table, 2), inner_place(table, 4)
    ((-1, -1, -1, 0, 1), ((-4, 3), 1), ((-2, 1), 1))
"""

OVERVIEW = """
    >>> from curvebells.halls import Hall
    >>> from curvebells.rows import ring_row
    >>> hall = Hall.read("thing cat\\nway run 0 0 1\\nthing dog\\nway walk 0 1\\nbell ding meet cat dog any\\nbell dong at cat 2 any")
    >>> ring_row(hall, hall.first)
    ((((0, -1, 1), 2), ('ding',)), (((-2, 0, 1), 2), ('dong',)))
"""

KNOTS = """
    >>> from curvebells.knots import knot_behind, knot_of
    >>> tree = knot_of([(), (1, -2, 1), (-1, 1)], ((-1, 1), 1))
    >>> tree, knot_behind(tree)
    ((1, ((2,), (2, ((0,), (1,))))), ((0,), (1,), (2,)))
"""

SAYINGS = """
    >>> from curvebells.halls import Hall
    >>> from curvebells.places import ratio_place
    >>> from curvebells.sayings import Band, first_time, holds_at
    >>> from curvebells.stairs import Stair
    >>> from curvebells.valid import in_all_halls
    >>> band = Band(Hall.read("thing cat\\nway run 0 0 1\\nbell ding at cat 1 any\\nbell dong at cat 2 any"))
    >>> calm = Stair([("rings", "dong"), ("not", 0), ("rings", "ding"), ("since", 1, 2)])
    >>> [holds_at(band, calm, ratio_place(one)) for one in ((1, 1), (7, 5), (3, 2))], first_time(band, calm)[1]
    ([False, True, False], False)
    >>> in_all_halls(Stair.read("above a 0\\nuntil 0 0\\nnot 0\\nor 1 2"))[0]
    True
"""

RUNS = """
    >>> from curvebells.halls import Hall
    >>> from curvebells.rules import Ruled
    >>> from curvebells.runs import Run
    >>> hall = Hall.read("thing cat\\nway run 0 1\\nway back 10 -1\\nbell tick at cat 3 any\\nbell tock at cat 6 any")
    >>> ruled = Ruled.read(hall, "when tick turn cat back\\nwhen tock turn cat run")
    >>> [(moment[0][0], lot, ways) for moment, lot, acts, ways in Run(ruled).rounds]
    [(-3, ('tick',), (1,)), (-4, ('tock',), (0,)), (-6, ('tock',), (0,))]
"""

ROOMS = """
    >>> from curvebells.rooms import Rooms, some_weave
    >>> from curvebells.stamps import stamp_of
    >>> from curvebells.weaves import how_many, meeting_barred, wish_fence
    >>> rooms = Rooms([("a", (("d",), ("e",))), ("b", (("f",),))], (), [(("a", 1), ("b", 1))])
    >>> some_weave(rooms), how_many(rooms), stamp_of(rooms, ("b", 1))
    (((('a', 1),), (('a', 2), ('b', 1))), 3, (1, 1))
    >>> meeting_barred(rooms, [("a", 0), ("b", 2)]), wish_fence(rooms, [(1, 0)])
    (('a', 'b', (('a', 1), ('b', 1))), ((0, 0),))
"""

WATCHERS = """
    >>> from curvebells.halls import Hall
    >>> from curvebells.sayings import Band
    >>> from curvebells.watchers import everybody_knows, heard_fits, knows_points, together_know
    >>> things = [("a", (("w", (0, 1)),))]
    >>> early = Hall(things, [("x", "at", ("a", 1), "any"), ("y", "at", ("a", 2), "any")])
    >>> later = Hall(things, [("x", "at", ("a", 2), "any"), ("y", "at", ("a", 1), "any")])
    >>> houses, ears, both = (Band(early), Band(later)), (("x",), ("y",)), ((0, 2), (1, 2))
    >>> heard_fits(houses, ("x",), (("x",),))
    ((0, 1), (0, 2), (1, 2))
    >>> everybody_knows(houses, ears, both), together_know(houses, ears, both)
    ((), ((0, 2), (1, 2)))
    >>> together_know(houses, ears, ((0, 2),)), knows_points(houses, ("x", "y"), ((0, 2),))
    ((), ((0, 2),))
"""

LIVE = """
    >>> from curvebells.halls import Hall
    >>> from curvebells.live import Live
    >>> live = Live(Hall.read("thing cat\\nway run 0 1\\nway sit 9\\nbell ding at cat 2 any\\nbell dong at cat 4 any"))
    >>> live.deed("when ding turn cat sit")
    >>> live.tale, live.changed
    ((('ding',),), (((((-4, 1), 1), ('dong',)),), ()))
    >>> live.undo()
    >>> live.changed
    ((), ((((-4, 1), 1), ('dong',)),))
"""

ALIKE = """
    >>> from curvebells.alike import alike_lots, parting_lots
    >>> from curvebells.made import heights_fault, heights_hall, heights_turns
    >>> from curvebells.rows import ring_row, tale_of
    >>> from curvebells.tones import finest_deaf, lots_matched, tones_needed
    >>> one, other = (("x",), ("y",), ("x",)), (("x",), ("x",), ("y",))
    >>> parting_lots(one, other), parting_lots(one, one[:2], surely=True), alike_lots(one, other)
    ((('x', 'y'),), (), (('x',), ('y',)))
    >>> tones_needed(one, other), lots_matched(one, other), finest_deaf((one, other), ("x", "y"))
    ((2, ('x', 'y')), (0, 2, 1), ((0, 1), (1, 0), (1, 1)))
    >>> heights_turns(one), heights_turns(other), heights_fault(one + (("z",), ("x",)))
    (('up', 'touch', 'down'), ('down', 'up', 'up'), ('end', 'x'))
    >>> hall = heights_hall(one)
    >>> tale_of(ring_row(hall, hall.first)) == one
    True
"""

SWEEPS = """
    >>> from curvebells.branches import graph_limits, graph_turns
    >>> from curvebells.halls import Hall
    >>> from curvebells.handles import Handle
    >>> from curvebells.places import place_order
    >>> from curvebells.stays import stay_holds
    >>> from curvebells.sweeps import Sweep, simplest_in
    >>> things = [("cat", (("run", (1, 0, 1)),)), ("dog", (("hop", (0, 0, 1)),))]
    >>> hall = Hall(things, [("ding", "at", ("cat", 0), "any"), ("dong", "meet", ("cat", "dog"), "any")])
    >>> handle = Handle(hall, "cat", 1)
    >>> handle.faces, graph_limits(handle, 1)
    (((0, (1, 0, 1), 1, 1), (1, (1,), 1, 1)), (-1, (0, 1)))
    >>> sweep = Sweep(handle)
    >>> [place_order(one, ((n, 1), 1)) for one, n in zip(sweep.breaks, (2, 0))], sweep.tales[:2]
    ([0, 0], ((('dong',), ('ding',), ('ding',)), (('dong',), ('ding',))))
    >>> sweep.tales[2:], simplest_in(sweep.part_of((-9, 4)))
    (((('dong',),), (), ()), (-3, 1))
    >>> cube = Handle(Hall([("cat", (("run", (1, 0, 0, 1)),))], [("ding", "at", ("cat", 0), "any")]), "cat", 1)
    >>> [place_order(one, ((n, 0, 0, m), 1)) for one, n, m in zip(graph_turns(cube, 0)[0], (-1, 27), (2, 4))]
    [0, 0]
    >>> first = (((9, 20), 0), ((3, 4), 2), ((3, 2), 0), ((3, 1), 2), (None, 0))
    >>> second = (((1, 3), 0), ((9, 20), 2), (None, 0))
    >>> stay_holds(handle, (-5, 2), (-7, 3), (((-5, 2), (-7, 3), (first, second)),))
    (('dong',), ('ding',), ('ding',))
"""

TOLD = """
    >>> from curvebells.told import least_degree, told_curves, told_fault
    >>> told_curves([(-1, 0, 1), (1, 0, 1)]), least_degree((1, 0, 1))
    (((-1, 1), (1, -2, 1)), 2)
    >>> told_fault([(1, 1, -1)]), told_fault([(1, 1, 1), (0, 0, 0)])
    ((0, 1), (None, 1))
"""

WISHES = """
    >>> from curvebells.wishes import same_wish, wish_ahead, wish_rings
    >>> same_wish(wish_ahead("x", "y"), wish_rings("x"), ["x", "y"])
    (False, (('x', 'y'),))
"""


def suite_of(name, text):
    test = doctest.DocTestParser().get_doctest(text, {}, name, None, 0)
    return doctest.DocTestCase(test)


def readme():
    path = pathlib.Path(__file__).resolve().parent.parent / "README.md"
    return path.read_text(encoding="utf-8")


def load_tests(loader, tests, pattern):
    suite = unittest.TestSuite()
    suite.addTest(suite_of("README.md", readme()))
    suite.addTest(suite_of("ratios and cuts", RATIOS_AND_CUTS))
    suite.addTest(suite_of("places", PLACES))
    suite.addTest(suite_of("tables", TABLES))
    suite.addTest(suite_of("overview", OVERVIEW))
    suite.addTest(suite_of("knots", KNOTS))
    suite.addTest(suite_of("sayings", SAYINGS))
    suite.addTest(suite_of("runs", RUNS))
    suite.addTest(suite_of("rooms", ROOMS))
    suite.addTest(suite_of("sweeps and stays", SWEEPS))
    suite.addTest(suite_of("watchers", WATCHERS))
    suite.addTest(suite_of("live halls", LIVE))
    suite.addTest(suite_of("alike, tones, heights", ALIKE))
    suite.addTest(suite_of("told", TOLD))
    suite.addTest(suite_of("wishes", WISHES))
    return suite


if __name__ == "__main__":
    unittest.main()
