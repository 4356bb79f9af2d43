"""Promise [57]: runs of a game at which no hand alone could have been sure of better."""

import itertools
import unittest

from curvebells.errors import InvalidSize, NoName, Refused
from curvebells.halls import Hall
from curvebells.threats import kept_ends, kept_run
from curvebells.turners import Game, game_first, game_moves, game_play, game_standings
from curvebells.wishes import Wish, wish_denied, wish_last, wish_rings
from tests.helpers import ANY_VALUES, BellCase, picture, source
from tests.test_turners import busy_hall, is_sure, some_game, some_wish

# At 1 ann chooses for the cat, then bob for the dog: ann's bell rings if the cat runs on, bob's if the dog walks on.
HALL = Hall.read("thing cat\nway run 0 1\nway sit 1\nthing dog\nway walk 0 1\nway lie 1\nbell ding at cat 1 any\n"
                 "bell dong at cat 3 any\nbell tick at dog 2 any")
GAME = Game(HALL, [("ann", ["cat"], ["ding"]), ("bob", ["dog"], ["ding"])])
WISHES = (wish_rings("dong"), wish_rings("tick"))


def all_runs(game, wish):
    """All runs to an end, by the moves."""
    found = []

    def grow(standing, run):
        moves = game_moves(game, wish, standing)
        if not moves:
            found.append(run)
        for choice, behind in moves:
            grow(behind, run if choice is None else run + (choice,))

    grow(game_first(game, wish), ())
    return found


def known_kept(game, wishes, run):
    """What kept_run tells, by the words of [57]."""
    told = [game_play(game, wish, run) for wish in wishes]
    number = 0
    for at in range(len(told[0])):
        if told[0][at][3]:
            hand = told[0][at][3][0]
            is_good = told[hand][-1][2] in wishes[hand].good
            for choice, behind in game_moves(game, wishes[hand], told[hand][at]):
                if not is_good and choice != run[number]:
                    if is_sure(game, wishes[hand], [game.hands[hand][0]], behind, None):
                        return (number, choice)
            number += 1
    return None


def good_hands(game, wishes, run):
    return tuple(at for at, wish in enumerate(wishes) if game_play(game, wish, run)[-1][2] in wish.good)


class TestRun(BellCase):

    def test_by_hand(self):
        self.assert_same(kept_run(GAME, WISHES, ((0,), (0,))), None)
        # Ann lets the cat sit: she could have been sure of dong.
        self.assert_same(kept_run(GAME, WISHES, ((1,), (0,))), (0, (0,)))
        self.assert_same(kept_run(game=GAME, wishes=list(WISHES), run=[(0,), (1,)]), (1, (0,)))
        self.assert_same(kept_run(GAME, WISHES, ((1,), (1,))), (0, (0,)))
        # With no hope for either there is nothing to be missed; with a good end nothing was.
        never = (wish_rings("ding", 2), wish_rings("ding", 2))
        self.assert_same(kept_run(GAME, never, ((1,), (1,))), None)
        self.assert_same(kept_run(GAME, (wish_denied(never[0]),) * 2, ((1,), (0,))), None)

    def test_both_choices_would_do(self):
        # A hand with a bad end that was sure by each choice but its own: the least other one is told.
        hall = Hall.read("thing cat\nway run 0 1\nway hop 0 2\nway sit 1\nbell ding at cat 1 any\nbell dong at cat 3 any")
        game = Game(hall, [("ann", ["cat"], ["ding"])])
        self.assert_same(kept_run(game, [wish_rings("dong")], ((2,),)), (0, (0,)))
        self.assert_same(kept_run(game, [wish_denied(wish_rings("dong"))], ((0,),)), (0, (2,)))
        self.assert_same(kept_run(game, [wish_denied(wish_rings("dong"))], ((2,),)), None)

    def test_chosen_well_and_then_not(self):
        # At 1 and at 2 ann chooses; by each first choice she is sure still, by the second one no more.
        game = Game(HALL, [("ann", ["cat"], ["ding", "tick"])])
        for first, other in (((0,), (1,)), ((1,), (0,))):
            self.assert_same(kept_run(game, WISHES[:1], (first, (1,))), (0, other))
            self.assert_same(kept_run(game, WISHES[:1], (first, (0,))), None)

    def test_what_was_missed_stays_missed(self):
        # Dong rings ahead of tick, or never: at tick there is nothing left to miss.
        hall = Hall.read("thing cat\nway run 0 2\nway sit 2\nthing dog\nway walk 0 1\nbell ding at cat 2 any\n"
                         "bell dong at cat 3 any\nbell tick at dog 2 any")
        game = Game(hall, [("ann", ["cat"], ["ding", "tick"])])
        for choice in ((0,), (1,)):
            self.assert_same(kept_run(game, WISHES[:1], ((1,), choice)), (0, (0,)))
            self.assert_same(kept_run(game, WISHES[:1], ((0,), choice)), None)
        self.assert_same(tuple(lot for lot, _ in kept_ends(game, WISHES[:1])), (("ann",),))

    def test_no_choices(self):
        game = Game(HALL, [("ann", ["cat"], [])])
        self.assert_same(kept_run(game, [wish_rings("dong")], ()), None)
        self.assert_same(kept_run(game, [wish_rings("dong", 2)], []), None)
        self.assert_same(kept_ends(game, [wish_rings("dong", 2)]), (((), ()),))
        self.assert_same(kept_ends(game, [wish_rings("dong")]), ((("ann",), ()),))

    def test_refused(self):
        for value in ANY_VALUES:
            if not isinstance(value, (list, tuple)):
                self.assert_error(Refused, {"at": -1}, kept_run, GAME, WISHES, value)
            self.assert_error(Refused, {"at": 0}, kept_run, GAME, WISHES, (value, value))
            self.assert_error(Refused, {"at": 1}, kept_run, GAME, WISHES, [(0,), value, (0,)])
            self.assert_error(Refused, {"at": 2}, kept_run, GAME, WISHES, [(0,), (0,), value])
        # A hand that waits at last.
        self.assert_error(Refused, {"at": 0}, kept_run, GAME, WISHES, ())
        self.assert_error(Refused, {"at": 1}, kept_run, GAME, WISHES, [(1,)])
        for wrong in ((2,), (True,), [0], (0, 0), (-1,)):
            self.assert_error(Refused, {"at": 0}, kept_run, GAME, WISHES, (wrong, (0,)))

    def test_wrong_wishes(self):
        for value in ANY_VALUES + (WISHES[:1], WISHES + WISHES[:1], (WISHES[0], None), (WISHES[0], "a"), WISHES[0]):
            self.assert_error(InvalidSize, {"word": "wishes"}, kept_run, GAME, value, None)
            self.assert_error(InvalidSize, {"word": "wishes"}, kept_ends, GAME, value)
        self.assert_error(InvalidSize, {"word": "wishes"}, kept_run, GAME, (wish_rings("owl"), None), None)
        for wishes, name in (((wish_rings("owl"), wish_rings("bat")), "owl"), ((WISHES[0], wish_rings("bat")), "bat"),
                             ((Wish(1, (), [(0, ("yak",), ("emu",), 0)]), WISHES[0]), "emu")):
            self.assert_error(NoName, {"name": name}, kept_run, GAME, wishes, None)
            self.assert_error(NoName, {"name": name}, kept_ends, GAME, wishes)

    def test_by_the_words(self):
        rng = source(420)
        told = {}
        for _ in range(60):
            game, bells = some_game(rng)
            if len(game_standings(game, wish_rings(bells[0]))) > 80:
                continue
            wishes = [some_wish(rng, bells) for _ in game.hands]
            runs = all_runs(game, wishes[0])
            kept = {}
            for run in runs if len(runs) <= 40 else rng.sample(runs, 40):
                found = known_kept(game, wishes, run)
                self.assert_same(kept_run(game, wishes, run), found)
                told[found is None] = told.get(found is None, 0) + 1
            for run in runs if len(runs) <= 300 else ():
                if kept_run(game, wishes, run) is None:
                    kept.setdefault(good_hands(game, wishes, run), run)
            ends = self.assert_kept(kept_ends, game, wishes)
            self.check_ends(game, wishes, ends, kept if len(runs) <= 300 else None)
        self.assertGreater(min(told.values()), 20)

    def check_ends(self, game, wishes, ends, kept):
        self.assertTrue(ends)
        names = [hand[0] for hand in game.hands]
        lots = [tuple(names.index(name) for name in lot) for lot, _ in ends]
        self.assertEqual(lots, sorted(lots, key=lambda lot: (len(lot), lot)))
        for (_, run), lot in zip(ends, lots):
            self.assert_same(kept_run(game, wishes, run), None)
            self.assert_same(good_hands(game, wishes, run), lot)
        if kept is not None:
            self.assertEqual(sorted(lots), sorted(kept))


class TestEnds(BellCase):

    def test_by_hand(self):
        self.assert_same(kept_ends(GAME, WISHES), ((("ann", "bob"), ((0,), (0,))),))
        told = kept_ends(game=GAME, wishes=[wish_rings("ding", 2), WISHES[1]])
        self.assert_same(tuple(lot for lot, _ in told), (("bob",),))
        # Bob wants what only ann can give, and she does not mind.
        told = kept_ends(GAME, [wish_rings("ding"), wish_rings("dong")])
        self.assert_same(tuple(lot for lot, _ in told), (("ann",), ("ann", "bob")))
        told = kept_ends(GAME, [wish_rings("dong", 2), wish_rings("dong")])
        self.assert_same(tuple(lot for lot, _ in told), ((), ("bob",)))

    def test_fewest_hands_first(self):
        game = Game(HALL, [("zoe", ["cat"], ["ding"]), ("abe", ["dog"], ["ding"])])
        told = kept_ends(game, [wish_rings("tick"), wish_rings("dong")])
        self.assert_same(tuple(lot for lot, _ in told), ((), ("zoe",), ("abe",), ("zoe", "abe")))
        for wishes in itertools.product((wish_rings("tick"), wish_denied(wish_rings("tick"))),
                                        (wish_rings("dong"), wish_denied(wish_rings("dong")))):
            self.assert_same(tuple(lot for lot, _ in kept_ends(game, wishes)), ((), ("zoe",), ("abe",), ("zoe", "abe")))

    def test_kept_runs_are_of_choices_for_every_run(self):
        # Each end of kept runs: the choices of the run, else the best ones that a lone hand has against all others.
        rng = source(421)
        for _ in range(30):
            game, bells = some_game(rng, 2)
            wishes = [some_wish(rng, bells) for _ in game.hands]
            runs = all_runs(game, wishes[0])
            if len(runs) > 60:
                continue
            self.assertTrue(any(kept_run(game, wishes, run) is None for run in runs))

    def test_greatest(self):
        game = Game(busy_hall(), [("ann", ["a"], ["aa"]), ("bob", ["b"], ["bb"]), ("cid", ["c"], ["cc", "ab"])])
        wishes = [wish_last("aa"), wish_rings("bb", 3), wish_denied(wish_last("cc"))]
        self.assertLess(len(game_standings(game, wishes[1])), 2000)
        ends = self.assert_soon(6, kept_ends, game, wishes)
        for _, run in ends:
            self.assert_same(self.assert_soon(3, kept_run, game, wishes, run), None)

    def test_arguments_stay(self):
        wishes, run = list(WISHES), [(0,), (1,)]
        before = picture((GAME, wishes, run))
        kept_run(GAME, wishes, run)
        kept_ends(GAME, wishes)
        self.assertEqual(picture((GAME, wishes, run)), before)
        self.assertEqual(list(itertools.chain(run)), [(0,), (1,)])


if __name__ == "__main__":
    unittest.main()
