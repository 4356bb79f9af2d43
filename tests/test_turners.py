"""Promises [53] to [56]: hands that choose at bells, and who is sure of a wish."""

import itertools
import unittest

from curvebells.courses import Course
from curvebells.errors import InvalidGame, InvalidSize, NoName, Refused
from curvebells.halls import Hall
from curvebells.turners import (
    Game, game_first, game_moves, game_play, game_standings, game_turns, good_choices, hand_number, least_groups,
    plan_holds, soonest_end, sure_plan,
)
from curvebells.wishes import Wish, wish_ahead, wish_both, wish_denied, wish_last, wish_rings
from tests.helpers import ANY_VALUES, BellCase, picture, some_curve, source, times

HALL = Hall.read("thing cat\nway run 0 1\nway sit 1\nthing dog\nway walk 0 1\nway back 5 -1\nbell ding at cat 1 any\n"
                 "bell dong at cat 3 any\nbell tick at dog 2 any")
GAME = Game(HALL, [("ann", ["cat"], ["ding"]), ["bob", ("dog",), ("ding", "tick")]])


def some_game(rng, hands=3):
    """A small game, and the names of its bells."""
    things = []
    for name in ("cat", "dog", "eel")[:rng.randint(1, 3)]:
        things.append((name, tuple((way, some_curve(rng, rng.randint(1, 2), 5)) for way in "uv"[:rng.randint(1, 2)])))
    names = [name for name, _ in things]
    bells = []
    for name in "pqrs"[:rng.randint(1, 4)]:
        word = rng.choice(["at", "at", "still"] + (["meet", "near"] if len(names) > 1 else []))
        told = {"at": (rng.choice(names), rng.randint(-5, 5)), "still": (rng.choice(names),),
                "meet": tuple(rng.sample(names, 2)) if len(names) > 1 else (),
                "near": tuple(rng.sample(names, 2)) + (rng.randint(1, 4),) if len(names) > 1 else ()}[word]
        bells.append((name, word, told, rng.choice(["any", "any", "up"])))
    hall = Hall(things, bells)
    free = rng.sample(names, len(names))
    chosen = []
    for name in ("ann", "bob", "cid")[:rng.randint(1, hands)]:
        if free:
            many = rng.randint(1, len(free)) if rng.random() < 0.3 else 1
            own = rng.sample([bell[0] for bell in bells], rng.randint(0, len(bells)))
            chosen.append((name, free[:many], own))
            free = free[many:]
    return Game(hall, chosen), [bell[0] for bell in bells]


def busy_hall():
    """A hall of three things with two ways each, which pass their heights four times, turn about turn."""
    things = []
    for at, name in enumerate("abc"):
        ways = [times(*[(-4 * k - 3 * at - n, 4) for k in (1, 4, 7, 10)]) for n in (0, 6)]
        things.append((name, (("u", ways[0]), ("v", ways[1]))))
    return Hall(things, [(name + name, "at", (name, 0), "any") for name, _ in things] + [
        ("ab", "meet", ("a", "b"), "any")])


def some_wish(rng, bells):
    states = rng.randint(2, 3)
    steps = [(rng.randrange(states), rng.sample(bells, rng.randint(0, 1)), rng.sample(bells, rng.randint(0, 1)),
              rng.randrange(states)) for _ in range(rng.randint(1, 5))]
    return Wish(states, rng.sample(range(states), rng.randint(1, states - 1)), steps)


def known_standings(game, wish):
    """All standings that come, by the moves."""
    met, todo = set(), [game_first(game, wish)]
    while todo:
        standing = todo.pop()
        if standing not in met:
            met.add(standing)
            todo += [behind for _, behind in game_moves(game, wish, standing)]
    return met


def is_sure(game, wish, group, standing, by):
    """Whether a group is sure of the aim from a standing, by the words of [55]."""
    if by is not None and standing[0] > by:
        return False
    if by is not None and standing[2] in wish.good:
        return True
    moves = game_moves(game, wish, standing)
    if not moves:
        return by is None and standing[2] in wish.good
    told = [is_sure(game, wish, group, behind, by) for _, behind in moves]
    is_own = standing[3] and game.hands[standing[3][0]][0] in group
    return any(told) if is_own else all(told)


class TestGame(BellCase):

    def test_attributes(self):
        self.assertIs(GAME.hall, HALL)
        self.assert_same(GAME.hands, (("ann", ("cat",), ("ding",)), ("bob", ("dog",), ("ding", "tick"))))
        hands = [["ann", ["cat"], ["ding"]]]
        game = Game(hall=HALL, hands=hands)
        hands[0][1].append("dog")
        hands.append(None)
        self.assert_same(game.hands, (("ann", ("cat",), ("ding",)),))
        self.assert_same(Game(HALL, (("a", ("dog", "cat"), ()),)).hands, (("a", ("dog", "cat"), ()),))

    def test_wrong_halls(self):
        for value in ANY_VALUES:
            if not isinstance(value, Hall):
                self.assert_error(InvalidSize, {"word": "hall"}, Game, value, value)

    def test_wrong_hands(self):
        for value in (None, 1, "ab", (), [], {}, HALL):
            self.assert_error(InvalidGame, {"at": -1}, Game, HALL, value)
        good = ("bob", ("dog",), ("tick",))
        for wrong in (None, "ann", ("ann", ("cat",)), ("ann", ("cat",), (), ()), ("Ann", ("cat",), ()), (1, ("cat",), ()),
                      ("ann", (), ()), ("ann", "cat", ()), ("ann", ("cat", "cat"), ()), ("ann", ("owl",), ()),
                      ("ann", ("ding",), ()), ("ann", ("cat",), ("owl",)), ("ann", ("cat",), ("ding", "ding")),
                      ("ann", ("cat",), "ding"), ("ann", ("cat",), None), ("ann", None, ()), ("ann", ("cat",), ("cat",)),
                      ("ann", (1,), ()), ("ann", ("cat",), ([],)), ("ann", (["cat"],), ()), ("bob", ("cat",), ()),
                      ("ann", ("dog",), ()), ("ann", ("cat", "dog"), ()), ("", ("cat",), ())):
            self.assert_error(InvalidGame, {"at": 1}, Game, HALL, [good, wrong, None])
            if wrong not in (("bob", ("cat",), ()), ("ann", ("dog",), ()), ("ann", ("cat", "dog"), ())):
                self.assert_error(InvalidGame, {"at": 0}, Game, HALL, (wrong,))
        for value in ANY_VALUES:
            if isinstance(value, (list, tuple)) and value:
                self.assert_error(InvalidGame, {"at": 0}, Game, HALL, value)
            self.assert_error(InvalidGame, {"at": 1}, Game, HALL, [good, value])


class TestMoves(BellCase):

    def test_by_hand(self):
        wish = wish_rings("dong")
        first = game_first(GAME, wish)
        self.assert_same(first, (0, (0, 0), 0, ()))
        self.assert_same(game_moves(GAME, wish, first), ((None, (1, (0, 0), 0, (0, 1))),))
        self.assert_same(game_moves(GAME, wish, (1, (0, 0), 0, (0, 1))),
                         (((0,), (1, (0, 0), 0, (1,))), ((1,), (1, (1, 0), 0, (1,)))))
        self.assert_same(game_moves(GAME, wish, (1, (1, 0), 0, (1,))),
                         (((0,), (1, (1, 0), 0, ())), ((1,), (1, (1, 1), 0, ()))))
        # The dog is at 2 at time 2, or coming back at time 3: together with the cat at 3, if it runs.
        self.assert_same(game_moves(GAME, wish, (1, (1, 0), 0, ())), ((None, (2, (1, 0), 0, (1,))),))
        self.assert_same(game_moves(GAME, wish, (1, (0, 1), 0, ())), ((None, (3, (0, 1), 1, (1,))),))
        self.assert_same(game_moves(game=GAME, wish=wish, standing=(3, (0, 1), 1, ())), ())
        self.assert_same(game_moves(GAME, wish, (0, (0, 0), 1, (1,)))[1], ((1,), (0, (0, 1), 1, ())))

    def test_two_things_in_the_hands_order(self):
        hall = Hall(HALL.things + (("eel", (("a", (1,)), ("b", (2,)), ("c", (3,)))),), HALL.bells)
        game = Game(hall, [("ann", ["eel", "cat"], ["ding"])])
        moves = game_moves(game, wish_rings("ding"), (1, (0, 0, 0), 1, (0,)))
        self.assert_same([choice for choice, _ in moves], [(0, 0), (0, 1), (1, 0), (1, 1), (2, 0), (2, 1)])
        self.assert_same(moves[3][1], (1, (1, 0, 1), 1, ()))
        for wrong in ((0, 2), (3, 0), (0,), (0, 0, 0), (0, True), [0, 0]):
            self.assert_error(Refused, {"at": 0}, game_play, game, wish_rings("ding"), [wrong])

    def test_wrong_standings(self):
        wish = wish_rings("dong")
        for value in [(4, (0, 0), 0, ()), (-1, (0, 0), 0, ()), (True, (0, 0), 0, ()), (0, (0,), 0, ()), (0, [0, 0], 0, ()),
                      (0, (2, 0), 0, ()), (0, (0, 0), 2, ()), (0, (0, 0), -1, ()), (0, (0, 0), False, ()),
                      (0, (0, 0), 0, (2,)), (0, (0, 0), 0, (1, 0)), (0, (0, 0), 0, (0, 0)), (0, (0, 0), 0, [0]),
                      (0, (0, 0), 0, (True,)), (0, (0, 0), 0), [0, (0, 0), 0, ()], (0, (0, 0), 0, (), ()), (0, (0, True), 0, ()),
                      (0, (0, 0), 0, None), (None, (0, 0), 0, ())] + list(ANY_VALUES):
            self.assert_error(InvalidSize, {"word": "standing"}, game_moves, GAME, wish, value)

    def test_standings(self):
        rng = source(170)
        for _ in range(60):
            game, bells = some_game(rng)
            wish = some_wish(rng, bells)
            standings = self.assert_kept(game_standings, game, wish)
            self.assert_same(standings, tuple(sorted(known_standings(game, wish))))
            course = Course(game.hall)
            for standing in standings:
                self.check_moves(game, wish, course, standing)

    def check_moves(self, game, wish, course, standing):
        number, ways, state, waiting = standing
        moves = game_moves(game, wish, standing)
        if waiting:
            places = [[name for name, _ in game.hall.things].index(thing) for thing in game.hands[waiting[0]][1]]
            choices = list(itertools.product(*[range(len(game.hall.things[place][1])) for place in places]))
            self.assert_same([choice for choice, _ in moves], choices)
            for choice, behind in moves:
                led = list(ways)
                for place, way in zip(places, choice):
                    led[place] = way
                self.assert_same(behind, (number, tuple(led), state, waiting[1:]))
            return
        behind = [pair for pair in course.row_by(ways) if pair[0] > number]
        if not behind:
            self.assert_same(moves, ())
            return
        at, lot = behind[0]
        hands = tuple(k for k, hand in enumerate(game.hands) if set(hand[2]) & set(lot))
        self.assert_same(moves, ((None, (at, ways, wish.after(state, lot), hands)),))

    def test_play(self):
        wish = wish_rings("dong")
        self.assert_same(game_play(GAME, wish, ()), ((0, (0, 0), 0, ()), (1, (0, 0), 0, (0, 1))))
        standings = game_play(game=GAME, wish=wish, run=[(1,), (1,)])
        self.assert_same(standings, ((0, (0, 0), 0, ()), (1, (0, 0), 0, (0, 1)), (1, (1, 0), 0, (1,)), (1, (1, 1), 0, ()),
                                     (3, (1, 1), 0, (1,))))
        self.assert_same(game_turns(GAME, wish, [(1,), (1,)]), ((Course(HALL).moments[0], (1, 1)),))
        self.assert_same(game_turns(GAME, wish, [(1,)]), ())
        self.assert_same(game_turns(GAME, wish, [(0,), (0,)]), ())
        self.assert_same(game_turns(GAME, wish, ()), ())
        whole = game_play(GAME, wish, [(1,), (1,), (0,)])
        self.assert_same(whole[-1], (3, (1, 0), 0, ()))
        self.assert_same(game_turns(game=GAME, wish=wish, run=((1,), (1,), (0,)))[1], (Course(HALL).moments[2], (1, 0)))

    def test_refused(self):
        wish = wish_rings("dong")
        for run, at in ((None, -1), (1, -1), ("", -1), ({}, -1), ([None], 0), ([(2,)], 0), ([(0, 0)], 0), ([()], 0),
                        ([[0]], 0), ([(True,)], 0), ([(1,), (2,), None], 1), ([(1,), (1,), (0,), (0,)], 3),
                        ([(1,), (1,), (0,), None], 3), ([(0,), (-1,)], 1)):
            self.assert_error(Refused, {"at": at}, game_play, GAME, wish, run)
            self.assert_error(Refused, {"at": at}, game_turns, GAME, wish, run)
        for value in ANY_VALUES:
            if not isinstance(value, (list, tuple)):
                self.assert_error(Refused, {"at": -1}, game_play, GAME, wish, value)
            self.assert_error(Refused, {"at": 1}, game_play, GAME, wish, [(0,), value])

    def test_plays_by_the_moves(self):
        rng = source(171)
        for _ in range(40):
            game, bells = some_game(rng)
            wish = some_wish(rng, bells)
            standing, met, run, turns = game_first(game, wish), [], [], []
            ahead = game.hall.first
            while True:
                met.append(standing)
                if not standing[3] and standing[1] != ahead:
                    turns.append((Course(game.hall).moments[standing[0] - 1], standing[1]))
                    ahead = standing[1]
                moves = game_moves(game, wish, standing)
                if not moves:
                    break
                choice, standing = rng.choice(moves)
                if choice is not None:
                    run.append(choice)
            self.assert_same(game_play(game, wish, run), tuple(met))
            self.assert_same(game_turns(game, wish, tuple(run)), tuple(turns))
            self.assert_error(Refused, {"at": len(run)}, game_play, game, wish, run + [(0,)])

    def test_names(self):
        lacking = wish_ahead("owl", "ant")
        for call in (game_first, game_standings, least_groups):
            self.assert_error(NoName, {"name": "ant"}, call, GAME, lacking)
        for call in (game_moves, game_play, game_turns):
            self.assert_error(NoName, {"name": "ant"}, call, GAME, lacking, None)
        for call in (sure_plan, good_choices, soonest_end, lambda g, w, group: plan_holds(g, w, group, None)):
            self.assert_error(NoName, {"name": "ant"}, call, GAME, lacking, ["owl"])
            self.assert_error(NoName, {"name": "owl"}, call, GAME, wish_rings("ding"), ["ann", "owl", "ant"])
            self.assert_error(NoName, {"name": 1}, call, GAME, wish_rings("ding"), ("bob", 1))
        self.assertEqual(hand_number(GAME, "bob"), 1)


class TestSure(BellCase):

    def test_by_hand(self):
        wish = wish_rings("dong")
        # Ann's cat rings dong if it runs; she alone chooses that.
        sure, plan = sure_plan(GAME, wish, ["ann"])
        self.assertIs(sure, True)
        self.assert_same(plan_holds(GAME, wish, ["ann"], plan), True)
        sure, plan = sure_plan(GAME, wish, ("bob", "bob"))
        self.assertIs(sure, False)
        self.assert_same(plan_holds(GAME, wish, ["ann"], plan, against=True), True)
        self.assert_same(plan_holds(GAME, wish, ["bob"], plan, against=True), False)
        self.assert_same(least_groups(GAME, wish), (("ann",),))
        self.assert_same(soonest_end(GAME, wish, ["ann"])[0], 3)
        self.assertIsNone(soonest_end(GAME, wish, ["bob"]))
        self.assert_same(sure_plan(GAME, wish_rings("ding"), []), (True, ()))
        self.assert_same(least_groups(GAME, wish_rings("ding")), ((),))
        self.assert_same(sure_plan(game=GAME, wish=wish, group=["ann", "bob"], by=2)[0], False)
        self.assert_same(sure_plan(GAME, wish, ["ann", "bob"], 3)[0], True)

    def test_an_end_at_the_beginning(self):
        game = Game(Hall(HALL.things, ()), [("ann", ["cat"], [])])
        good, bad = Wish(1, [0], []), Wish(1, [], [])
        self.assert_same(game_standings(game, good), ((0, (0, 0), 0, ()),))
        self.assert_same(sure_plan(game, good, []), (True, ()))
        self.assert_same(sure_plan(game, bad, ["ann"]), (False, ()))
        self.assert_same(soonest_end(game, good, []), (0, (), None))
        self.assertIsNone(soonest_end(game, bad, ["ann"]))
        self.assert_same(good_choices(game, good, ["ann"]), ())
        self.assert_same(least_groups(game, bad), ())
        self.assert_same(plan_holds(game, good, [], ()), True)
        self.assert_same(plan_holds(game, good, [], (), against=True), False)

    def test_by_the_words(self):
        rng = source(172)
        for _ in range(60):
            game, bells = some_game(rng)
            wish = some_wish(rng, bells)
            names = [hand[0] for hand in game.hands]
            sure = []
            for many in range(len(names) + 1):
                for group in itertools.combinations(names, many):
                    self.check_group(game, wish, group, [name for name in names if name not in group])
                    if is_sure(game, wish, group, game_first(game, wish), None):
                        sure.append(group)
            least = [group for group in sure if not any(set(one) < set(group) for one in sure)]
            self.assert_same(self.assert_kept(least_groups, game, wish), tuple(least))

    def check_group(self, game, wish, group, rest):
        first = game_first(game, wish)
        for by in (None, 0, 1, 2, 4, 60):
            sure, plan = sure_plan(game, wish, list(group), by)
            self.assert_same(sure, is_sure(game, wish, group, first, by))
            # What holds for the one never holds against it for the other.
            self.assert_same(plan_holds(game, wish, group, plan, by=by), sure)
            self.assert_same(plan_holds(game, wish, rest, plan, by=by, against=True), not sure)
        soonest = soonest_end(game, wish, group)
        least = [by for by in range(len(Course(game.hall).moments) + 2) if is_sure(game, wish, group, first, by)]
        self.assertEqual(None if soonest is None else soonest[0], least[0] if least else None)
        if soonest is not None:
            self.assert_same(plan_holds(game, wish, group, soonest[1], by=soonest[0]), True)
            if soonest[0] == 0:
                self.assertIsNone(soonest[2])
            else:
                self.assert_same(plan_holds(game, wish, rest, soonest[2], by=soonest[0] - 1, against=True), True)
        wanted = []
        for standing in game_standings(game, wish):
            if standing[3] and game.hands[standing[3][0]][0] in group:
                good = [choice for choice, behind in game_moves(game, wish, standing)
                        if is_sure(game, wish, group, behind, None)]
                wanted.append((standing, tuple(good)))
        self.assert_same(good_choices(game, wish, group), tuple(wanted))

    def test_good_choices_make_plans(self):
        rng = source(173)
        for _ in range(40):
            game, bells = some_game(rng)
            wish = some_wish(rng, bells)
            group = [game.hands[0][0]]
            choices = good_choices(game, wish, group)
            if sure_plan(game, wish, group)[0]:
                plan = tuple((standing, rng.choice(good)) for standing, good in choices if good)
                self.assert_same(plan_holds(game, wish, group, plan), True)
            for _ in range(5):
                plan = tuple((standing, rng.choice(game_moves(game, wish, standing))[0]) for standing, _ in choices)
                self.assert_same(plan_holds(game, wish, group, plan), self.holds(game, wish, group, dict(plan)))

    def holds(self, game, wish, group, plan):
        """Whether all runs by a plan that has all choices reach a good end."""
        todo = [game_first(game, wish)]
        while todo:
            standing = todo.pop()
            moves = game_moves(game, wish, standing)
            if not moves and standing[2] not in wish.good:
                return False
            if standing in plan:
                moves = [move for move in moves if move[0] == plan[standing]]
            todo += [behind for _, behind in moves]
        return True

    def test_plans(self):
        wish = wish_rings("dong")
        at = (1, (0, 0), 0, (0, 1))
        self.assert_same(plan_holds(GAME, wish, ["ann"], ((at, (0,)),)), True)
        self.assert_same(plan_holds(game=GAME, wish=wish, group=["ann"], value=((at, (1,)),)), False)
        self.assert_same(plan_holds(GAME, wish, ["ann"], ((at, (1,)),), against=True), True)
        self.assert_same(plan_holds(GAME, wish, ["ann"], ((at, (0,)),), against=True), False)
        self.assert_same(plan_holds(GAME, wish, ["ann"], ()), False)
        # Up to the moment 0 she needs no choice; at the moment 1 the aim is still open.
        self.assert_same(plan_holds(GAME, wish, ["ann"], (), by=0, against=True), True)
        self.assert_same(plan_holds(GAME, wish, ["ann"], (), by=1, against=True), False)
        self.assert_same(plan_holds(GAME, wish, ["ann"], ((at, (0,)),), by=1, against=True), True)
        self.assert_same(plan_holds(GAME, wish, ["ann"], (), against=True), False)
        # Once the aim is reached, no choice is needed.
        self.assert_same(plan_holds(GAME, wish_rings("ding"), ["ann"], (), by=1), True)
        self.assert_same(plan_holds(GAME, wish_rings("ding"), ["ann"], ()), False)
        self.assert_same(plan_holds(GAME, wish, ["ann"], ((at, (0,)),), by=3), True)
        self.assert_same(plan_holds(GAME, wish, ["ann"], ((at, (0,)),), by=2), False)
        self.assert_same(plan_holds(GAME, wish, ["ann"], ((at, (0,)),), by=2, against=True), True)
        # What never comes may have a choice, too.
        more = ((at, (0,)), ((2, (1, 1), 1, (0,)), (1,)), ((0, (0, 0), 0, (0,)), (0,)))
        self.assert_same(plan_holds(GAME, wish, ["ann"], more), True)
        self.assert_same(plan_holds(GAME, wish, ["ann"], more[::-1]), True)
        for wrong in (((at, (0,)), (at, (0,))), ((at, (0,)), (at, (1,))), [(at, (0,))], ([at, (0,)],), ((at, [0]),),
                      ((at, (True,)),), ((at, (2,)),), ((at, (0, 0)),), ((at, (0,), 1),), ((at,),), (None,), None,
                      ((at, (0,)), ((1, (0, 0), 0, (1,)), (0,))), ((at, (0,)), ((1, (0, 0), 0, ()), (0,))),
                      ((at, (0,)), ((1, (0, 0), 0, ()), None)), ((at, (0,)), ((9, (0, 0), 0, (0,)), (0,)))):
            self.assert_same(plan_holds(GAME, wish, ["ann"], wrong), False)
            self.assert_same(plan_holds(GAME, wish, ["ann"], wrong, by=0, against=True), False)
        for value in ANY_VALUES:
            self.assert_same(plan_holds(GAME, wish, ["ann"], value), False)
            self.assert_same(plan_holds(GAME, wish, ["ann"], ((at, value),)), False)
            self.assert_same(plan_holds(GAME, wish, ["ann"], ((value, (0,)),)), False)

    def test_greatest(self):
        hall = busy_hall()
        bells = [bell[0] for bell in hall.bells]
        game = self.assert_soon(2, Game, hall, [("x", ["a"], bells), ("y", ["b"], bells), ("z", ["c"], bells)])
        wish = wish_both(wish_rings("ab", 3), wish_denied(wish_last("cc")))
        standings = self.assert_soon(3, game_standings, game, wish)
        self.assertGreater(len(standings), 1500)
        for group in (["x"], ["y", "z"], ["x", "y", "z"], []):
            sure, plan = self.assert_soon(3, sure_plan, game, wish, group)
            rest = [name for name in ("x", "y", "z") if name not in group]
            self.assert_same(self.assert_soon(3, lambda: plan_holds(
                game, wish, group if sure else rest, plan, against=not sure)), True)
            self.assert_soon(5, soonest_end, game, wish, group)
            self.assert_soon(3, good_choices, game, wish, group)
        self.assert_soon(5, least_groups, game, wish)

    def test_kept(self):
        before = picture(GAME)
        wish = wish_rings("dong")
        sure_plan(GAME, wish, ["ann"])
        self.assertEqual(picture(GAME), before)


if __name__ == "__main__":
    unittest.main()
