"""Promises [58] and [59]: blind hands, what they can hear, and what they are sure of."""

import itertools
import unittest

from curvebells.blind import blind_holds, blind_lost, blind_sure, first_nodes, least_heard, next_nodes
from curvebells.courses import Course
from curvebells.errors import InvalidSize, NoName, Refused
from curvebells.halls import Hall
from curvebells.turners import Game, game_first, game_moves, sure_plan
from curvebells.wishes import Wish, wish_ahead, wish_both, wish_denied, wish_last, wish_rings
from tests.helpers import ANY_VALUES, BellCase, source
from tests.test_turners import GAME, HALL, busy_hall, some_game, some_wish


def heard_of(game, hand, heard, standing):
    """What a hand hears of the lot at a standing ahead of all choices, of all bells that it hears."""
    own = [told for told in game.hands if told[0] == hand][0][2]
    lots = dict(Course(game.hall).row_by(standing[1]))
    return tuple(name for name in lots[standing[0]] if name in own or name in heard)


def known_next(game, wish, hand, heard, begins, choice):
    """(ends, pairs) behind some standings, by the moves one by one."""
    number = [told[0] for told in game.hands].index(hand)
    ends, nodes = set(), {}
    todo = list(begins)
    while todo:
        standing = todo.pop()
        moves = game_moves(game, wish, standing)
        if not moves:
            ends.add(standing)
        for told, behind in moves:
            if standing[3] and standing[3][0] == number and told != choice:
                continue
            part = heard_of(game, hand, heard, behind) if told is None else ()
            if part:
                nodes.setdefault(part, set()).add(behind)
            else:
                todo.append(behind)
    return tuple(sorted(ends)), tuple((part, tuple(sorted(nodes[part]))) for part in sorted(nodes))


def hearings(game, wish, hand, heard, most):
    """All hearings at whose last lot the hand chooses, whatever all choose; None if there are more than so many."""
    number = [told[0] for told in game.hands].index(hand)
    found, met = set(), set()
    todo = [((), game_first(game, wish))]
    while todo:
        hearing, standing = todo.pop()
        if (hearing, standing) in met:
            continue
        met.add((hearing, standing))
        if standing[3] and standing[3][0] == number:
            found.add(hearing)
        if len(found) > most or len(met) > 3000:
            return None
        for told, behind in game_moves(game, wish, standing):
            part = heard_of(game, hand, heard, behind) if told is None else ()
            todo.append((hearing + ((part,) if part else ()), behind))
    return sorted(found)


def plan_wins(game, wish, hand, heard, plan):
    """Whether all runs by a plan, a dict from hearings to choices, end good."""
    number = [told[0] for told in game.hands].index(hand)
    todo = [((), game_first(game, wish))]
    met = set()
    while todo:
        hearing, standing = todo.pop()
        if (hearing, standing) in met:
            continue
        met.add((hearing, standing))
        moves = game_moves(game, wish, standing)
        if not moves and standing[2] not in wish.good:
            return False
        for told, behind in moves:
            if standing[3] and standing[3][0] == number and told != plan[hearing]:
                continue
            part = heard_of(game, hand, heard, behind) if told is None else ()
            todo.append((hearing + ((part,) if part else ()), behind))
    return True


def coming(game, wish, hand, heard, plan):
    """The hearings, ascending, that come by a plan, and at whose last lot the hand chooses."""
    number = [told[0] for told in game.hands].index(hand)
    todo, met, found = [((), game_first(game, wish))], set(), set()
    while todo:
        hearing, standing = todo.pop()
        if (hearing, standing) in met:
            continue
        met.add((hearing, standing))
        is_own = bool(standing[3]) and standing[3][0] == number
        if is_own:
            found.add(hearing)
        for told, behind in game_moves(game, wish, standing):
            if not is_own or told == plan[hearing]:
                part = heard_of(game, hand, heard, behind) if told is None else ()
                todo.append((hearing + ((part,) if part else ()), behind))
    return sorted(found)


class TestNodes(BellCase):

    def test_by_hand(self):
        wish = wish_rings("dong")
        # Bob hears ding and tick; the first thing that he hears is ding.
        ends, pairs = first_nodes(GAME, wish, "bob", [])
        self.assert_same((ends, pairs), ((), ((("ding",), ((1, (0, 0), 0, (0, 1)),)),)))
        node = pairs[0][1]
        # If he lets the dog walk, it is at 2 at time 2; dong he doesn't hear.
        self.assert_same(next_nodes(GAME, wish, "bob", [], node, (0,)),
                         ((), ((("tick",), ((2, (0, 0), 0, (1,)), (2, (1, 0), 0, (1,)))),)))
        # Coming back, it is at 2 at time 3, and perhaps the cat at 3: this he hears, if told so.
        self.assert_same(next_nodes(GAME, wish, "bob", ["dong"], node, (1,)),
                         ((), ((("dong", "tick"), ((3, (0, 1), 1, (1,)),)), (("tick",), ((3, (1, 1), 0, (1,)),)))))
        self.assert_same(next_nodes(game=GAME, wish=wish, hand="bob", heard=(), node=((3, (0, 1), 1, (1,)),), choice=(1,)),
                         (((3, (0, 1), 1, ()),), ()))
        # Ann hears ding alone.
        node = first_nodes(game=GAME, wish=wish, hand="ann", heard=[])[1][0][1]
        self.assert_same(next_nodes(GAME, wish, "ann", [], node, (1,)),
                         (((2, (1, 0), 0, ()), (3, (1, 0), 0, ()), (3, (1, 1), 0, ())), ()))

    def test_a_hand_without_a_bell(self):
        game = Game(HALL, [("ann", ["cat"], []), ("bob", ["dog"], ["tick"])])
        wish = wish_rings("dong")
        ends, pairs = first_nodes(game, wish, "ann", [])
        self.assert_same(pairs, ())
        self.assert_same(ends, ((3, (0, 0), 1, ()), (3, (0, 1), 1, ())))
        self.assert_same(blind_sure(game, wish, "ann", []), (True, ()))
        ends, pairs = first_nodes(game, wish, "ann", ["tick"])
        self.assert_same((ends, pairs), ((), ((("tick",), ((2, (0, 0), 0, (1,)),)),)))
        self.assert_same(next_nodes(game, wish, "ann", ["tick"], pairs[0][1], None)[1],
                         ((("tick",), ((3, (0, 1), 1, (1,)),)),))
        self.assert_error(Refused, {"at": 0}, next_nodes, game, wish, "ann", ["tick"], pairs[0][1], (0,))

    def test_by_the_words(self):
        rng = source(180)
        for _ in range(50):
            game, bells = some_game(rng)
            wish = some_wish(rng, bells)
            for number, hand in enumerate(told[0] for told in game.hands):
                heard = rng.sample(bells, rng.randint(0, len(bells)))
                todo = [self.assert_kept(first_nodes, game, wish, hand, heard)]
                self.assert_same(todo[0], known_next(game, wish, hand, heard, [game_first(game, wish)], None))
                for _ in range(12):
                    nodes = [node for _, pairs in todo for _, node in pairs]
                    if not nodes:
                        break
                    node = rng.choice(nodes)
                    choices = [None]
                    if number in node[0][3]:
                        ways = {name: len(own) for name, own in game.hall.things}
                        choices = itertools.product(*[range(ways[thing]) for thing in game.hands[number][1]])
                    todo = []
                    for choice in choices:
                        told = next_nodes(game, wish, hand, tuple(heard), node, choice)
                        self.assert_same(told, known_next(game, wish, hand, heard, node, choice))
                        todo.append(told)

    def test_wrong_nodes(self):
        wish = wish_rings("dong")
        good = (1, (0, 0), 0, (0, 1))
        for node in ((), [good], good, (good, good), ((2, (0, 0), 0, (1,)), good), (good, (2, (0, 0), 0, ())), (None,),
                     ((1, (0, 0), 2, ()),), (list(good),), (good, None), ((9, (0, 0), 0, ()),), None):
            self.assert_error(InvalidSize, {"word": "node"}, next_nodes, GAME, wish, "bob", [], node, None)
        for value in ANY_VALUES:
            self.assert_error(InvalidSize, {"word": "node"}, next_nodes, GAME, wish, "bob", [], value, value)
            self.assert_error(Refused, {"at": 0}, next_nodes, GAME, wish, "bob", [], (good,), value)
            if value is not None:
                self.assert_error(Refused, {"at": 0}, next_nodes, GAME, wish, "bob", [], ((1, (0, 0), 0, (0,)),), value)
        for choice in (None, (2,), (0, 0), (), [0], (True,), 0):
            self.assert_error(Refused, {"at": 0}, next_nodes, GAME, wish, "bob", [], (good,), choice)

    def test_names(self):
        lacking, wish = wish_ahead("owl", "ant"), wish_rings("dong")
        for call in (first_nodes, blind_sure, lambda g, w, hand, heard: next_nodes(g, w, hand, heard, None, None),
                     lambda g, w, hand, heard: blind_holds(g, w, hand, heard, None),
                     lambda g, w, hand, heard: blind_lost(g, w, hand, heard, None)):
            self.assert_error(NoName, {"name": "ant"}, call, GAME, lacking, "pig", ["ox"])
            self.assert_error(NoName, {"name": "pig"}, call, GAME, wish, "pig", ["ox"])
            self.assert_error(NoName, {"name": None}, call, GAME, wish, None, ["ox"])
            self.assert_error(NoName, {"name": "ox"}, call, GAME, wish, "ann", ["dong", "ox", "bee"])
            self.assert_error(NoName, {"name": 3}, call, GAME, wish, "ann", (3,))
        self.assert_error(NoName, {"name": "ant"}, least_heard, GAME, lacking, "pig")
        self.assert_error(NoName, {"name": "pig"}, least_heard, GAME, wish, "pig")


class TestSure(BellCase):

    def test_by_hand(self):
        wish = wish_rings("dong")
        sure, pairs = blind_sure(GAME, wish, "ann", [])
        self.assert_same((sure, pairs), (True, (((("ding",),), (0,)),)))
        self.assert_same(blind_holds(GAME, wish, "ann", [], pairs), True)
        self.assert_same(blind_holds(GAME, wish, "ann", [], (((("ding",),), (1,)),)), False)
        self.assert_same(blind_holds(GAME, wish, "ann", [], ()), False)
        sure, nodes = blind_sure(GAME, wish, "bob", [])
        self.assertIs(sure, False)
        self.assert_same(blind_lost(game=GAME, wish=wish, hand="bob", heard=[], value=nodes), True)
        self.assert_same(blind_lost(GAME, wish, "bob", [], ()), False)
        self.assert_same(least_heard(GAME, wish, "ann"), ((),))
        self.assert_same(least_heard(GAME, wish, "bob"), ())

    def test_who_must_hear(self):
        # The dog must turn if the cat does: only who hears dong can tell.
        hall = Hall.read("thing cat\nway run 0 1\nway sit 1\nthing dog\nway walk 0 1\nway back 2\nbell a at cat 1 any\n"
                         "bell b at cat 2 any\nbell c at dog 3 any\nbell d at dog 4 any")
        game = Game(hall, [("ann", ["cat"], ["a"]), ("bob", ["dog"], ["c"])])
        # Just one of b and d must ring: bob lets d ring if he did not hear b.
        both = Wish(2, [1], [(0, ["b"], [], 1), (0, ["d"], [], 1), (1, ["b"], [], 0), (1, ["d"], [], 0)])
        self.assert_same(blind_sure(game, both, "bob", [])[0], False)
        self.assert_same(least_heard(game=game, wish=both, hand="bob"), (("b",),))
        sure, pairs = blind_sure(game, both, "bob", ["b"])
        self.assertIs(sure, True)
        self.assert_same(dict(pairs)[(("b",), ("c",))], (1,))
        self.assert_same(dict(pairs)[(("c",),)], (0,))

    def test_by_all_plans(self):
        rng = source(181)
        told = {True: 0, False: 0}
        for _ in range(400):
            game, bells = some_game(rng)
            wish = some_wish(rng, bells)
            number = rng.randrange(len(game.hands))
            hand = game.hands[number][0]
            heard = rng.sample(bells, rng.randint(0, len(bells)))
            found = hearings(game, wish, hand, heard, 6)
            ways = {name: len(own) for name, own in game.hall.things}
            choices = list(itertools.product(*[range(ways[thing]) for thing in game.hands[number][1]]))
            if found is None or len(choices) ** len(found) > 100:
                continue
            plans = [dict(zip(found, chosen)) for chosen in itertools.product(choices, repeat=len(found))]
            good = [plan for plan in plans if plan_wins(game, wish, hand, heard, plan)]
            sure, value = self.assert_kept(blind_sure, game, wish, hand, heard)
            told[sure] += 1
            self.assert_same(sure, len(good) > 0)
            self.assert_same(blind_holds(game, wish, hand, heard, value), sure)
            self.assert_same(blind_lost(game, wish, hand, heard, value), not sure)
            if sure:
                self.assertEqual(list(value), sorted(value))
                self.assertEqual([hearing for hearing, _ in value], coming(game, wish, hand, heard, dict(value)))
            for plan in rng.sample(plans, min(4, len(plans))):
                pairs = tuple(rng.sample(list(plan.items()), len(plan)))
                self.assert_same(blind_holds(game, wish, hand, heard, pairs), plan in good)
            if sure:
                # Who is sure without seeing is sure by a plan for what is seen.
                self.assert_same(sure_plan(game, wish, [hand])[0], True)
        self.assertGreater(min(told.values()), 40)

    def test_least_heard(self):
        rng = source(182)
        for _ in range(60):
            game, bells = some_game(rng)
            wish = some_wish(rng, bells)
            for hand, _, own in game.hands:
                rest = [name for name in bells if name not in own]
                lots = [lot for many in range(len(rest) + 1) for lot in itertools.combinations(rest, many)]
                sure = [lot for lot in lots if blind_sure(game, wish, hand, lot)[0]]
                least = [lot for lot in sure if not any(set(one) < set(lot) for one in sure)]
                self.assert_same(least_heard(game, wish, hand), tuple(least))

    def test_pairs(self):
        wish = wish_rings("dong")
        good = ((("ding",),), (0,))
        more = (((("tick",),), (1,)), good, (((), (0,))), ((("ding",), ("ding", "tick")), (1,)))
        self.assert_same(blind_holds(game=GAME, wish=wish, hand="ann", heard=["tick"], value=more), True)
        for wrong in ((good, good), (good, ((("ding",),), (1,))), [good], (list(good),), ([("ding",)], (0,)),
                      ((["ding"],), (0,)), good, (good, (((),), (0,))), (good, ((("dong",),), (0,))),
                      (good, ((("tick", "ding"),), (0,))), (good, (("tick",), (0,))), (good, ((("tick",),), (2,))),
                      (good, ((("tick",),), None)), (good, ((("tick",),), [0])), (good, ((("tick",),),)), (good, None),
                      (good, ((("tick", "tick"),), (0,))), (((("ding",),), (True,)),), (((("ding",),), (0, 0)),), None):
            self.assert_same(blind_holds(GAME, wish, "ann", ["tick"], wrong), False)
        for value in ANY_VALUES:
            self.assert_same(blind_holds(GAME, wish, "ann", ["tick"], value), False)
            self.assert_same(blind_holds(GAME, wish, "ann", [], (((("ding",),), value),)), False)
            self.assert_same(blind_holds(GAME, wish, "ann", [], (good, (value, (0,)))), value == ())

    def test_closed(self):
        wish = wish_rings("dong")
        nodes = blind_sure(GAME, wish, "bob", [])[1]
        self.assert_same(blind_lost(GAME, wish, "bob", [], nodes[::-1]), True)
        self.assert_same(blind_lost(GAME, wish, "bob", [], nodes + nodes), True)
        # A part of a node that is closed for itself may stand for it.
        first = ((1, (0, 0), 0, (0, 1)),)
        ticks = ((2, (1, 0), 0, (1,)),)
        last = ((3, (1, 1), 0, (1,)),)
        self.assert_same(blind_lost(GAME, wish, "bob", [], (first, ticks, last)), True)
        for wrong in ((first, ticks), (ticks, last), (first, last), (first, ((2, (0, 0), 0, (1,)),), last), [first, ticks, last],
                      (first, list(ticks), last), (first, ticks, last, ()), (first, ticks, last, None), first + ticks + last,
                      (first, ticks, ((3, (0, 1), 1, (1,)),))):
            self.assert_same(blind_lost(GAME, wish, "bob", [], wrong), False)
        for value in ANY_VALUES:
            self.assert_same(blind_lost(GAME, wish, "bob", [], value), False)
            self.assert_same(blind_lost(GAME, wish, "bob", [], (first, ticks, last, value)), False)

    def test_a_bad_end_at_once(self):
        game = Game(Hall(HALL.things, ()), [("ann", ["cat"], [])])
        bad = Wish(1, [], [])
        self.assert_same(first_nodes(game, bad, "ann", []), (((0, (0, 0), 0, ()),), ()))
        self.assert_same(blind_sure(game, bad, "ann", []), (False, ()))
        self.assert_same(blind_lost(game, bad, "ann", [], ()), True)
        self.assert_same(blind_holds(game, bad, "ann", [], ()), False)
        self.assert_same(least_heard(game, bad, "ann"), ())

    def test_greatest(self):
        hall = busy_hall()
        bells = [bell[0] for bell in hall.bells]
        game = Game(hall, [("x", ["a"], ["aa", "bb"]), ("y", ["b"], ["bb", "cc"])])
        wish = wish_both(wish_rings("ab", 2), wish_denied(wish_last("cc")))
        for hand in ("x", "y"):
            for heard in ([], ["ab"], bells):
                sure, value = self.assert_soon(4, blind_sure, game, wish, hand, heard)
                self.assert_same(self.assert_soon(4, blind_holds, game, wish, hand, heard, value), sure)
                self.assert_same(self.assert_soon(4, blind_lost, game, wish, hand, heard, value), not sure)
            self.assert_soon(6, least_heard, game, wish, hand)


if __name__ == "__main__":
    unittest.main()
