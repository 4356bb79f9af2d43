"""Promises [43] and [44]: runs by rules, and their papers."""

import itertools
import unittest

from curvebells.courses import Course
from curvebells.errors import InvalidHall, InvalidPlace, InvalidSize
from curvebells.halls import Hall
from curvebells.places import place_order, ratio_place
from curvebells.rows import next_ring, ring_row
from curvebells.rules import Ruled
from curvebells.runs import Run, run_holds, run_paper
from curvebells.sayings import Band
from curvebells.tables import table_holds
from tests.helpers import ANY_VALUES, BellCase, picture, some_curve, source
from tests.test_halls import all_ways

EXAMPLE = Hall.read("thing cat\nway run 0 1\nway back 10 -1\nbell tick at cat 3 any\nbell tock at cat 6 any")
RULED = Ruled.read(EXAMPLE, "when tick turn cat back\nwhen tock turn cat run")
ONE = ((-1, 1), 1)


def some_ruled(rng, most=6):
    """A hall of at most eight ways, and rules of its names."""
    things = []
    for name in ("cat", "dog", "eel")[:rng.randint(1, 3)]:
        things.append((name, tuple((way, some_curve(rng, rng.randint(0, 3), 6)) for way in "uv"[:rng.randint(1, 2)])))
    names = [name for name, _ in things]
    bells = []
    for name in "abcd"[:rng.randint(0, 4)]:
        word = rng.choice(["at", "still"] + (["meet", "near"] if len(names) > 1 else []))
        told = {"at": (rng.choice(names), rng.randint(-5, 5)), "still": (rng.choice(names),),
                "meet": tuple(rng.sample(names, 2)) if len(names) > 1 else (),
                "near": tuple(rng.sample(names, 2)) + (rng.randint(1, 4),) if len(names) > 1 else ()}[word]
        bells.append((name, word, told, rng.choice(["any", "any", "up", "touch"])))
    hall = Hall(things, bells)
    rules = []
    for _ in range(rng.randint(0, most) if bells else 0):
        whiles = tuple((name, rng.choice(own)[0]) for name, own in things if rng.random() < 0.25)
        thing, own = rng.choice(things)
        rules.append((rng.choice(bells)[0], whiles, thing, rng.choice(own)[0]))
    return Ruled(hall, rules)


def known_rounds(ruled, since=None, ways=None, deaf=()):
    """The rounds by the words of [43], by the next ring behind each moment."""
    hall = ruled.hall
    ways = hall.first if ways is None else ways
    followed = {name: dict(zip([way for way, _ in own], range(len(own)))) for name, own in hall.things}
    names = [name for name, _ in hall.things]
    rounds, counts = [], {}
    time = since
    while True:
        ring = next_ring(hall, ways, time)
        if ring is None:
            return tuple(rounds)
        time, lot = ring
        for name in lot:
            counts[name] = counts.get(name, 0) + 1
        acts = []
        for number, (bell, whiles, thing, _) in enumerate(ruled.rules):
            fits = bell in lot and all(ways[names.index(name)] == followed[name][way] for name, way in whiles)
            if fits and (number, counts[bell]) not in [tuple(pair) for pair in deaf]:
                if thing not in [ruled.rules[other][2] for other in acts]:
                    acts.append(number)
        behind = list(ways)
        for number in acts:
            behind[names.index(ruled.rules[number][2])] = followed[ruled.rules[number][2]][ruled.rules[number][3]]
        ways = tuple(behind)
        rounds.append((time, lot, tuple(acts), ways))


class TestRun(BellCase):

    def test_example(self):
        rounds = Run(RULED).rounds
        self.assertEqual([(moment[0][0], lot, ways) for moment, lot, acts, ways in rounds],
                         [(-3, ("tick",), (1,)), (-4, ("tock",), (0,)), (-6, ("tock",), (0,))])
        self.assert_same([acts for _, _, acts, _ in rounds], [(0,), (1,), (1,)])

    def test_attributes(self):
        run = Run(RULED)
        self.assertIs(run.ruled, RULED)
        self.assertIsNone(run.since)
        three, four, six = [((-at, 1), 1) for at in (3, 4, 6)]
        self.assert_same(run.row, ((three, ("tick",)), (four, ("tock",)), (six, ("tock",))))
        self.assert_same(run.tale, (("tick",), ("tock",), ("tock",)))
        # At 6 the second rule acts, but turns to what is followed already.
        self.assert_same(run.turns, ((three, (1,)), (four, (0,))))
        self.assert_same(run.last, (0,))
        self.assertEqual(picture(run.band), picture(Band(EXAMPLE, run.turns)))
        self.assert_same(run.band.row, run.row)

    def test_ways_at(self):
        run = Run(RULED)
        for one, wanted in (((1, 1), 0), ((3, 1), 0), ((7, 2), 1), ((4, 1), 1), ((5, 1), 0), ((6, 1), 0), ((9, 1), 0)):
            self.assert_same(run.ways_at(ratio_place(one)), (wanted,))
        self.assert_same(run.ways_at(moment=((-9, 0, 1), 2)), (0,))
        run = Run(RULED, ONE, (1,))
        self.assert_same([run.ways_at(((-at, 1), 1)) for at in (1, 2, 4, 5)], [(1,), (1,), (1,), (0,)])
        for value in ANY_VALUES:
            if value not in (ONE, ((-2, 0, 1), 2)):
                self.assert_error(InvalidPlace, {"at": 0}, run.ways_at, value)
        self.assert_error(InvalidPlace, {"at": 0}, run.ways_at, ((0, 1), 1))

    def test_no_rules_and_no_bells(self):
        run = Run(Ruled(EXAMPLE))
        self.assert_same(run.row, ring_row(EXAMPLE, (0,)))
        self.assert_same((run.turns, run.last), ((), (0,)))
        run = Run(Ruled(Hall(EXAMPLE.things, ())))
        self.assert_same((run.rounds, run.row, run.tale, run.turns, run.last), ((), (), (), (), (0,)))
        self.assert_same(run.band.row, ())

    def test_since_and_ways(self):
        run = Run(RULED, ((-3, 1), 1))
        self.assert_same(run.tale, (("tock",),))
        self.assert_same(run.since, ((-3, 1), 1))
        self.assertIsNone(run.band)
        run = Run(RULED, since=None, ways=(1,))
        # From 10 down: at 6 at time 4, then from 4 on it runs, to 6 at time 6.
        self.assert_same(run.tale, (("tock",), ("tock",)))
        self.assertIsNone(run.band)
        self.assertIsNone(Run(RULED, None, (0,)).band)
        self.assert_same(Run(RULED, None, (0,)).rounds, Run(RULED).rounds)
        self.assert_same(Run(RULED, ways=(1,), since=((-5, 1), 1)).tale, (("tick",),))
        self.assert_same(Run(RULED, ((-9, 1), 1)).rounds, ())

    def test_first_rule_acts(self):
        hall = Hall.read("thing cat\nway run 0 1\nway sit 3\nway hop 9\nthing dog\nway a 0 1\nway b 5\nbell x at cat 3 any\n"
                         "bell y at dog 3 any\nbell z at dog 4 any")
        rules = [("x", (("dog", "b"),), "cat", "sit"), ("x", (), "cat", "hop"), ("y", (), "cat", "sit"),
                 ("y", (("cat", "run"), ("dog", "a")), "dog", "b"), ("x", (), "dog", "a")]
        run = Run(Ruled(hall, rules))
        # Both ring at 3: of the rules that turn the cat the second one is the first that fits.
        self.assert_same([single[1:] for single in run.rounds], [(("x", "y"), (1, 3), (2, 1))])
        turned = Run(Ruled(hall, [rules[4], rules[3], rules[2], rules[1]]))
        self.assert_same([single[1:] for single in turned.rounds], [(("x", "y"), (0, 2), (1, 0)), (("z",), (), (1, 0))])

    def test_deaf(self):
        self.assert_same(Run(RULED, deaf=[(0, 1)]).tale, (("tick",), ("tock",)))
        self.assert_same(Run(RULED, deaf=((1, 1),)).tale, (("tick",), ("tock",), ("tick",)))
        # At 4 the second rule is deaf, and the cat comes down to 3 at time 7, back again.
        self.assert_same([single[2] for single in Run(RULED, deaf=[(1, 1)]).rounds], [(0,), (), (0,)])
        self.assert_same(Run(RULED, deaf=[(1, 2), (0, 2), (0, 99)]).rounds[2][2], ())
        # A deaf rule leaves its thing to a later one.
        again = Ruled.read(EXAMPLE, "when tick turn cat run\nwhen tick turn cat back")
        self.assert_same([single[2] for single in Run(again, deaf=[(0, 1)]).rounds][0], (1,))

    def test_by_the_words(self):
        rng = source(160)
        for _ in range(60):
            ruled = some_ruled(rng)
            run = Run(ruled)
            self.assert_same(run.rounds, known_rounds(ruled))
            self.assert_same(run.band.row, run.row)
            for _ in range(4):
                course = Course(ruled.hall)
                since = rng.choice([None, ONE, ((-2, 0, 1), 2)] + list(course.moments))
                ways = rng.choice([None] + all_ways(ruled.hall))
                deaf = [(number, n) for number in range(len(ruled.rules)) for n in (1, 2) if rng.random() < 0.2]
                run = Run(ruled, since, ways, deaf=deaf)
                self.assert_same(run.rounds, known_rounds(ruled, since, ways, deaf))
                self.check_rest(run, ruled.hall.first if ways is None else ways)

    def check_rest(self, run, begin):
        self.assert_same(run.row, tuple(single[:2] for single in run.rounds))
        self.assert_same(run.tale, tuple(single[1] for single in run.rounds))
        behind = [begin] + [single[3] for single in run.rounds]
        self.assert_same(run.last, behind[-1])
        wanted = [(single[0], single[3]) for single, ahead in zip(run.rounds, behind) if single[3] != ahead]
        self.assert_same(run.turns, tuple(wanted))
        for at, single in enumerate(run.rounds):
            self.assert_same(run.ways_at(single[0]), behind[at])

    def test_wrong(self):
        for value in ANY_VALUES:
            if value not in (None, ONE, ((-2, 0, 1), 2)):
                self.assert_error(InvalidPlace, {"at": 0}, Run, RULED, value, value, deaf=value)
            if value is not None:
                self.assert_error(InvalidHall, {"at": "ways"}, Run, RULED, None, value, deaf=value)
            if value not in ((), []):
                self.assert_error(InvalidSize, {"word": "deaf"}, Run, RULED, None, (0,), deaf=value)
            if value not in ((0, 2), (1, 2)):
                self.assert_error(InvalidSize, {"word": "deaf"}, Run, RULED, deaf=[(0, 1), value])
        for ways in ((), (2,), (0, 0), [0], (True,), (-1,)):
            self.assert_error(InvalidHall, {"at": "ways"}, Run, RULED, ONE, ways)
        for deaf in (None, 1, "ab", [(2, 1)], [(-1, 1)], [(0, 0)], [(0, True)], [(False, 1)], [[0, 1]], [(0,)], [(0, 1, 1)],
                     [None], {}, (0, 1)):
            self.assert_error(InvalidSize, {"word": "deaf"}, Run, RULED, deaf=deaf)
        with self.assertRaises(TypeError):
            Run(RULED, None, None, ())

    def test_later_changes(self):
        deaf = [(0, 1)]
        run = Run(RULED, deaf=deaf)
        before = picture(run)
        deaf.append((1, 1))
        self.assertEqual(picture(run), before)
        self.assertEqual(picture(Run(RULED, deaf=((0, 1),))), before)


class TestPaper(BellCase):

    def test_by_hand(self):
        table, rounds = run_paper(RULED)
        self.assert_same(rounds, ((1, ("tick",), (0,), (1,)), (2, ("tock",), (1,), (0,)), (3, ("tock",), (1,), (0,))))
        self.assertIsNotNone(table_holds(Course(EXAMPLE).faces, table))
        self.assert_same(run_holds(RULED, (table, rounds)), True)
        for wrong in (rounds[:2], rounds + rounds[:1], rounds[::-1], (), list(rounds), None,
                      ((1, ("tick",), (), (1,)),) + rounds[1:], ((2, ("tick",), (0,), (1,)),) + rounds[1:],
                      ((True, ("tick",), (0,), (1,)),) + rounds[1:], ((1, ("tock",), (0,), (1,)),) + rounds[1:],
                      ((1, ("tick",), (False,), (1,)),) + rounds[1:], ((1, ("tick",), (0,), (0,)),) + rounds[1:],
                      ((1, ["tick"], (0,), (1,)),) + rounds[1:], ([1, ("tick",), (0,), (1,)],) + rounds[1:]):
            self.assert_same(run_holds(ruled=RULED, value=(table, wrong)), False)
        for wrong in ((table,), (table, rounds, 1), [table, rounds], (None, rounds), ((), rounds), (list(table), rounds),
                      (None, ()), ((), ()), (((), ()), ())):
            self.assert_same(run_holds(RULED, wrong), False)
        for value in ANY_VALUES:
            self.assert_same(run_holds(RULED, value), False)
            self.assert_same(run_holds(RULED, (value, rounds)), False)
            self.assert_same(run_holds(RULED, (table, value)), False)

    def test_no_bells(self):
        ruled = Ruled(Hall(EXAMPLE.things, ()))
        self.assert_same(run_paper(ruled), (((), ()), ()))
        self.assert_same(run_holds(ruled, (((), ()), ())), True)
        self.assert_same(run_holds(ruled, (((), ()), ((1, (), (), (0,)),))), False)

    def test_by_the_runs(self):
        rng = source(161)
        for _ in range(40):
            ruled = some_ruled(rng)
            paper = self.assert_kept(run_paper, ruled)
            self.assert_same(run_holds(ruled, paper), True)
            spans, rounds = paper[0][0], paper[1]
            self.assertEqual(len(rounds), len(Run(ruled).rounds))
            for told, single in zip(rounds, Run(ruled).rounds):
                self.assert_same(told[1:], single[1:])
                low, high = [ratio_place(one) for one in spans[told[0] - 1][:2]]
                self.assertLessEqual(place_order(low, single[0]), 0)
                self.assertLessEqual(place_order(single[0], high), 0)
            # By other rules there is another run, or the same one.
            other = Ruled(ruled.hall, ruled.rules[::-1])
            self.assert_same(run_holds(other, paper), Run(other).rounds == Run(ruled).rounds)

    def test_greatest(self):
        rng = source(162)
        things = [(name, tuple((way, some_curve(rng, 4, 99)) for way in "uv")) for name in "abc"]
        bells = [("k", "near", ("a", "b", 9), "any"), ("l", "mid", ("a", "b", "c"), "any"),
                 ("m", "near", ("b", "c", 99), "any"), ("n", "near", ("a", "c", 50), "any")]
        hall = Hall(things, bells)
        rules = [(bell, (), thing, way) for bell, thing, way in itertools.islice(itertools.product("klmn", "abc", "vu"), 6)]
        ruled = Ruled(hall, rules)
        run = self.assert_soon(2, Run, ruled)
        self.assert_same(run.rounds, known_rounds(ruled))
        paper = self.assert_soon(3, run_paper, ruled)
        self.assert_same(self.assert_soon(3, run_holds, ruled, paper), True)


if __name__ == "__main__":
    unittest.main()
