"""Promises [49] and [50]: runs from all starts, hands alike, and when rules come in time."""

import unittest

from curvebells.courses import Course
from curvebells.errors import InvalidSize
from curvebells.halls import Hall, rewound_hall
from curvebells.places import place_order, ratio_of, ratio_place
from curvebells.rows import begins_with, ring_row
from curvebells.rules import Ruled
from curvebells.runs import Run
from curvebells.spans import in_spans, is_spans
from curvebells.starts import (
    alike_hands, alike_holds, alike_paper, coming_from, start_names, start_of, start_standings, wish_comings,
)
from curvebells.tables import Table, inner_place
from curvebells.wishes import wish_denied, wish_rings
from tests.helpers import ANY_VALUES, BellCase, picture, some_curve, source
from tests.test_halls import all_ways
from tests.test_pools import some_or_lively, some_tale_wish
from tests.test_runs import EXAMPLE, RULED

THREE, SIX = ((-3, 1), 1), ((-6, 1), 1)


def known_starts(ruled):
    many = len(Course(ruled.hall).moments)
    return [(number, ways) for number in range(many + 1) for ways in all_ways(ruled.hall)]


def known_tale(ruled, start):
    number, ways = start
    since = Course(ruled.hall).moments[number - 1] if number else None
    return Run(ruled, since, ways).tale


def known_next(ruled, course, start):
    """(next lot, start behind it) by a run, or None."""
    number, ways = start
    rounds = Run(ruled, course.moments[number - 1] if number else None, ways).rounds
    if not rounds:
        return None
    moment, lot, _, behind = rounds[0]
    places = [place_order(told, moment) for told in course.moments]
    return lot, (places.index(0) + 1, behind)


def led_pairs(one, other, pairs):
    """Pairs of starts, with all that they lead to; and whether all that rings next is alike."""
    course, met, is_alike = Course(one.hall), set(), True
    todo = list(pairs)
    while todo:
        pair = todo.pop()
        if pair not in met:
            met.add(pair)
            led, beside = known_next(one, course, pair[0]), known_next(other, course, pair[1])
            is_alike = is_alike and (led and led[0]) == (beside and beside[0])
            if led and beside:
                todo.append((led[1], beside[1]))
    return met, is_alike


def other_rules(rng, ruled):
    """The same hall with the rules turned about, some left out, or one twice."""
    lot = sorted(rng.sample(range(len(ruled.rules)), rng.randint(0, len(ruled.rules))))
    return rng.choice([Ruled(ruled.hall, ruled.rules[::-1]), ruled.only(lot), Ruled(ruled.hall, ruled.rules[1:])])


class TestStarts(BellCase):

    def test_standings(self):
        # The moments are 3, 4, 6, 7: of the one way 3 and 6, of the other one 4 and 7.
        wanted = tuple((number, (way,)) for number in range(5) for way in (0, 1))
        self.assert_same(start_standings(RULED), wanted)
        self.assert_same(start_standings(ruled=Ruled(Hall(EXAMPLE.things, ()))), ((0, (0,)), (0, (1,))))

    def test_start_of(self):
        run = start_of(RULED, (0, (0,)))
        self.assert_same(run.rounds, Run(RULED).rounds)
        self.assert_same((run.since, run.band), (None, None))
        self.assertIs(run.ruled, RULED)
        run = start_of(ruled=RULED, start=(1, (0,)))
        self.assert_same(ratio_of(run.since), (3, 1))
        self.assert_same(run.tale, (("tock",),))
        self.assert_same(start_of(RULED, (1, (1,))).tale, (("tock",), ("tock",)))
        self.assert_same(start_of(RULED, (4, (1,))).tale, ())
        self.assert_same(start_of(RULED, (3, (1,))).tale, (("tick",),))
        self.assert_same(start_of(RULED, (3, (1,))).ways_at(((-99, 1), 1)), (1,))

    def test_wrong_starts(self):
        for value in ANY_VALUES + ((5, (0,)), (-1, (0,)), (0, (2,)), (0, (0, 0)), (0, ()), [0, (0,)], (0, [0]), (True, (0,)),
                                   (0, (False,)), (0,), (0, (0,), 0), (None, (0,))):
            self.assert_error(InvalidSize, {"word": "start"}, start_of, RULED, value)

    def test_names_by_hand(self):
        # From the beginning: tick tock tock by the first way, tock tock by the second one.
        tales = [known_tale(RULED, start) for start in known_starts(RULED)]
        self.assert_same(tales[:4], [(("tick",), ("tock",), ("tock",)), (("tock",), ("tock",)), (("tock",),),
                                     (("tock",), ("tock",))])
        self.assert_same(start_names(ruled=RULED), (0, 1, 2, 1, 2, 3, 4, 3, 4, 4))
        self.assert_same(start_names(Ruled(Hall(EXAMPLE.things, ()))), (0, 0))

    def test_coming_by_hand(self):
        self.assert_same(coming_from(RULED, [("tick",)]), ((0, (0,)), (2, (1,)), (3, (1,))))
        self.assert_same(coming_from(ruled=RULED, lots=(("tock",), ("tock",))), ((0, (1,)), (1, (1,))))
        self.assert_same(coming_from(RULED, ()), start_standings(RULED))
        self.assert_same(coming_from(RULED, [("tick", "tock")]), ())

    def test_by_the_runs(self):
        rng = source(410)
        for _ in range(60):
            ruled = some_or_lively(rng, 5)
            starts = known_starts(ruled)
            self.assert_same(start_standings(ruled), tuple(starts))
            tales = [known_tale(ruled, start) for start in starts]
            numbers = list(dict.fromkeys(tales))
            self.assert_same(start_names(ruled), tuple(numbers.index(tale) for tale in tales))
            for start in rng.sample(starts, min(3, len(starts))):
                run = start_of(ruled, start)
                self.assert_same(run.tale, tales[starts.index(start)])
                self.assertIsNone(run.band)
                lots = list(run.tale[:rng.randint(0, 3)])
                wanted = tuple(one for one, tale in zip(starts, tales) if begins_with(tale, tuple(lots)))
                self.assert_same(coming_from(ruled, lots), wanted)
                self.assert_same(coming_from(ruled, tuple(lots)), wanted)


class TestAlike(BellCase):

    def test_by_hand(self):
        again = Ruled.read(EXAMPLE, "when tock turn cat run\nwhen tick turn cat back\nwhen tick turn cat run")
        self.assert_same(alike_hands(RULED, again), None)
        self.assert_same(alike_hands(one=RULED, other=Ruled(EXAMPLE)), ((0, (0,)), 2))
        self.assert_same(alike_hands(Ruled(EXAMPLE), RULED), ((0, (0,)), 2))
        self.assert_same(alike_paper(RULED, Ruled(EXAMPLE)), None)
        paper = alike_paper(one=RULED, other=again)
        self.assert_same(paper, tuple((start, start) for start in start_standings(RULED)))
        self.assert_same(alike_holds(one=RULED, other=again, value=paper), True)
        self.assert_same(alike_holds(RULED, Ruled(EXAMPLE), paper), False)

    def test_first_unlike_lot(self):
        lone = Ruled.read(EXAMPLE, "when tick turn cat back")
        # By both rules tick tock tock, by the first one tick tock tick.
        self.assert_same(alike_hands(RULED, lone), ((0, (0,)), 2))
        self.assert_same(alike_hands(Ruled.read(EXAMPLE, "when tock turn cat run"), Ruled(EXAMPLE)), ((0, (1,)), 1))

    def test_papers(self):
        starts = start_standings(RULED)
        paper = tuple((start, start) for start in starts)
        for value in (paper[1:], paper[:-1], paper[::-1], paper + paper[-1:], list(paper), ((starts[0], starts[0], 0),) + paper[1:],
                      ([starts[0], starts[0]],) + paper[1:], (((False, (0,)), starts[0]),) + paper[1:],
                      ((starts[0], (0, (False,))),) + paper[1:], paper + (((5, (0,)), (5, (0,))),),
                      paper[:1] + ((starts[0], starts[1]),) + paper[1:], ()):
            self.assert_same(alike_holds(RULED, RULED, value), False)
        # (4, (0,)) and (4, (1,)) have no next round, nor has (3, (0,)).
        more = tuple(sorted(paper + ((starts[8], starts[9]), (starts[9], starts[6]))))
        self.assert_same(alike_holds(RULED, RULED, more), True)
        # From these two the same tale comes, but the starts behind it must be among the pairs, too.
        pair = (starts[2], starts[4])
        self.assert_same(known_tale(RULED, pair[0]), known_tale(RULED, pair[1]))
        self.assert_same(alike_holds(RULED, RULED, tuple(sorted(paper + (pair,)))), True)
        for value in ANY_VALUES:
            self.assert_same(alike_holds(RULED, RULED, value), False)
            self.assert_same(alike_holds(RULED, RULED, (value,) + paper), False)

    def test_starts_behind_must_be_told(self):
        # From both starts a tock is next; what is behind it differs, as the ways do.
        hall = Hall.read("thing cat\nway run 0 1\nthing dog\nway u 0\nway v 1\nbell x at cat 1 any\nbell y at cat 2 any")
        one, other = Ruled(hall), Ruled.read(hall, "when x turn dog v")
        self.assert_same(alike_hands(one, other), None)
        paper = alike_paper(one, other)
        self.assert_same(len(paper) > len(start_standings(one)), True)
        self.assert_same(alike_holds(one, other, paper), True)
        for at, pair in enumerate(paper):
            self.assert_same(alike_holds(one, other, paper[:at] + paper[at + 1:]), False)
        self.assert_same(alike_holds(other, one, tuple(sorted((b, a) for a, b in paper))), True)

    def test_by_the_runs(self):
        rng = source(411)
        told = {True: 0, False: 0}
        for _ in range(50):
            one = some_or_lively(rng, 5)
            other = other_rules(rng, one)
            found = None
            for start in known_starts(one):
                tale, beside = known_tale(one, start), known_tale(other, start)
                if tale != beside:
                    at = next(at for at in range(99) if tale[at:at + 1] != beside[at:at + 1])
                    found = (start, at)
                    break
            self.assert_same(alike_hands(one, other), found)
            paper = self.assert_kept(alike_paper, one, other)
            self.assertEqual(paper is None, found is not None)
            told[found is None] += 1
            if paper is not None:
                self.assert_same(alike_holds(one, other, paper), True)
            diagonal = tuple((start, start) for start in known_starts(one))
            self.assertFalse(found is not None and alike_holds(one, other, diagonal))
            if diagonal != paper:
                self.assert_same(alike_holds(one, other, diagonal), False)
        self.assertGreater(min(told.values()), 5)


    def test_pairs_that_lead_on(self):
        rng = source(415)
        told = {True: 0, False: 0}
        for _ in range(40):
            one = some_or_lively(rng, 3)
            other = rng.choice([one, other_rules(rng, one)])
            starts = known_starts(one)
            pairs = [(start, start) for start in starts] + [(rng.choice(starts), rng.choice(starts)) for _ in range(2)]
            met, is_alike = led_pairs(one, other, pairs)
            value = tuple(sorted(met))
            self.assert_same(alike_holds(one, other, value), is_alike)
            told[is_alike] += 1
            at = rng.randrange(len(value))
            less = value[:at] + value[at + 1:]
            met, is_alike = led_pairs(one, other, less)
            self.assert_same(alike_holds(one, other, less), value[at][0] != value[at][1] and is_alike and met == set(less))
        self.assertGreater(min(told.values()), 8)


class TestComings(BellCase):

    def test_by_hand(self):
        # In force from the beginning on, tick turns the cat; behind 3 it is too late, and only tock is left.
        self.assert_same(wish_comings(RULED, wish_rings("tock", 2)), ((None, False, THREE, False),))
        self.assert_same(wish_comings(ruled=RULED, wish=wish_denied(wish_rings("tock", 2))), ((THREE, True, None, False),))
        self.assert_same(wish_comings(RULED, wish_rings("tick")), ((None, False, None, False),))
        self.assert_same(wish_comings(RULED, wish_rings("owl")), ())
        self.assert_same(wish_comings(RULED, wish_denied(wish_rings("owl"))), ((None, False, None, False),))
        late = Ruled.read(EXAMPLE, "when tock turn cat back")
        # From 6 on, where the cat turns to 4 and goes down, tick rings once more, unless the rule comes behind it.
        self.assert_same(wish_comings(late, wish_rings("tick", 2)), ((None, False, SIX, False),))

    def test_by_the_words(self):
        rng = source(412)
        several = 0
        for _ in range(80):
            ruled, wish = some_or_lively(rng, 5), some_tale_wish(rng)
            row = ring_row(ruled.hall, ruled.hall.first)
            spans = self.assert_kept(wish_comings, ruled, wish)
            self.assertTrue(is_spans(spans))
            several += len(spans) > 1
            for low, has_low, high, has_high in spans:
                self.assert_same((has_low, has_high), (low is not None, False))
                for end in (low, high):
                    self.assertTrue(end is None or end in [moment for moment, _ in row])
            table = Table((), [moment for moment, _ in row])
            for cell in range(len(table)):
                time = inner_place(table, cell)
                ahead = tuple(lot for moment, lot in row if place_order(moment, time) <= 0)
                tale = ahead + Run(ruled, time, ruled.hall.first).tale
                self.assert_same(in_spans(spans, time), wish.takes(tale))
        self.assertGreater(several, 0)

    def test_rewound(self):
        rng = source(413)
        for _ in range(25):
            ruled, wish = some_or_lively(rng, 4), some_tale_wish(rng)
            # The clock t * t + t: what rang at it rings at the time.
            slow = Ruled(rewound_hall(ruled.hall, (0, 1, 1)), ruled.rules)
            one, other = Run(ruled), Run(slow)
            self.assert_same([told[1:] for told in other.rounds], [told[1:] for told in one.rounds])
            for told, beside in zip(one.rounds, other.rounds):
                where = [place_order(told[0], ratio_place((n * n + n, 1))) for n in range(1, 9)]
                self.assertEqual(where, [place_order(beside[0], ratio_place((n, 1))) for n in range(1, 9)])
            spans, slower = wish_comings(ruled, wish), wish_comings(slow, wish)
            self.assertEqual([span[1::2] for span in spans], [span[1::2] for span in slower])

    def test_greatest(self):
        rng = source(414)
        things = [(name, tuple((way, some_curve(rng, 4, 99)) for way in "uv")) for name in "abc"]
        bells = [("k", "near", ("a", "b", 9), "any"), ("l", "mid", ("a", "b", "c"), "any"),
                 ("m", "near", ("b", "c", 99), "any"), ("n", "near", ("a", "c", 50), "any")]
        ruled = Ruled(Hall(things, bells), [("k", (), "a", "v"), ("l", (), "b", "v"), ("m", (), "c", "v"), ("n", (), "a", "u"),
                                            ("k", (), "b", "u"), ("l", (), "c", "u")])
        self.assert_soon(3, start_names, ruled)
        self.assert_soon(3, coming_from, ruled, (("k",),))
        paper = self.assert_soon(3, alike_paper, ruled, Ruled(ruled.hall, ruled.rules))
        self.assert_same(self.assert_soon(3, alike_holds, ruled, ruled, paper), True)
        self.assert_soon(3, wish_comings, ruled, wish_rings("k"))
        self.assert_soon(3, alike_hands, ruled, Ruled(ruled.hall))

    def test_arguments_stay(self):
        before = picture(RULED)
        lots = [("tick",)]
        coming_from(RULED, lots)
        self.assertEqual(lots, [("tick",)])
        self.assertEqual(picture(RULED), before)


if __name__ == "__main__":
    unittest.main()
