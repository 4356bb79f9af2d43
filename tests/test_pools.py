"""Promises [45] to [48]: clashes, kept orders, lots of rules that keep the tale or serve a wish, deaf rules."""

import itertools
import unittest

from curvebells.errors import InvalidSize
from curvebells.halls import Hall, bell_number, thing_number, way_number
from curvebells.pools import (
    bound_pairs, clashes_of, deaf_holds, deaf_tree, deafened_rules, keeping_gap, keeps_tale, kept_orders, least_kept,
    never_tree, parted_order, serving_rules, tree_holds,
)
from curvebells.rules import Ruled
from curvebells.runs import Run
from curvebells.wishes import Wish, wish_ahead, wish_denied, wish_last, wish_rings
from tests.helpers import ANY_VALUES, BellCase, picture, some_curve, source
from tests.test_runs import EXAMPLE, RULED, some_ruled

# At 3 the first and the third rule turn the cat, to unlike ways.
CLASHING = Ruled.read(EXAMPLE, "when tick turn cat back\nwhen tock turn cat run\nwhen tick turn cat run")
NEVER = wish_rings("tick", 3)


def fitting(ruled, lot, ways):
    """The numbers of all fitting rules, by the words of [43]."""
    hall = ruled.hall
    numbers = []
    for number, (bell, whiles, _, _) in enumerate(ruled.rules):
        bell_number(hall, bell)
        if bell in lot and all(ways[thing_number(hall, a)] == way_number(hall, a, b) for a, b in whiles):
            numbers.append(number)
    return numbers


def known_clashes(ruled):
    ways, clashes = ruled.hall.first, []
    for at, (_, lot, _, behind) in enumerate(Run(ruled).rounds):
        for name, _ in ruled.hall.things:
            numbers = [number for number in fitting(ruled, lot, ways) if ruled.rules[number][2] == name]
            if len({ruled.rules[number][3] for number in numbers}) > 1:
                clashes.append((at, name, tuple(numbers)))
        ways = behind
    return tuple(clashes)


def told_run(ruled):
    """Moments, lots and ways of a run."""
    return [(moment, lot, ways) for moment, lot, _, ways in Run(ruled).rounds]


def all_lots(ruled):
    numbers = range(len(ruled.rules))
    return [lot for many in range(len(ruled.rules) + 1) for lot in itertools.combinations(numbers, many)]


def acted_pairs(ruled, deaf):
    counts, pairs = {}, []
    for _, lot, acts, _ in Run(ruled, deaf=deaf).rounds:
        for name in lot:
            counts[name] = counts.get(name, 0) + 1
        pairs += [(number, counts[ruled.rules[number][0]]) for number in acts]
    return sorted(pairs)


def known_deaf_tree(ruled, wish, most, deaf=()):
    if wish.takes(Run(ruled, deaf=deaf).tale):
        return None
    if len(deaf) == most:
        return ()
    tree = [(pair, known_deaf_tree(ruled, wish, most, deaf + (pair,))) for pair in acted_pairs(ruled, deaf)]
    return None if any(branch is None for _, branch in tree) else tuple(tree)


def is_known_tree(ruled, wish, value, inside=(), outside=()):
    """Whether a tree of tuples holds, by the words of [47]."""
    free = [number for number in range(len(ruled.rules)) if number not in inside + outside]
    run = Run(ruled.only(sorted(inside)))
    if value == ():
        ways = ruled.hall.first
        for _, lot, _, behind in run.rounds:
            numbers = fitting(ruled, lot, ways)
            for number in free:
                bell, _, thing, way = ruled.rules[number]
                ousted = any(other in inside and other < number and ruled.rules[other][2] == thing for other in numbers)
                place = thing_number(ruled.hall, thing)
                if number in numbers and not ousted and behind[place] != way_number(ruled.hall, thing, way):
                    return False
            ways = behind
        return not wish.takes(run.tale)
    number, one, other = value
    return number in free and (is_known_tree(ruled, wish, one, inside + (number,), outside)
                               and is_known_tree(ruled, wish, other, inside, outside + (number,)))


def lively_ruled(rng, most):
    """A hall in which much rings, and turns."""
    things = [("cat", (("u", (rng.randint(0, 2), 1)), ("v", (rng.randint(9, 12), -1)), ("w", (rng.randint(3, 6),))))]
    if rng.random() < 0.5:
        things.append(("dog", (("u", (rng.randint(7, 9), -1)), ("v", (0, 2)))))
    bells = [(name, "at", (rng.choice(things)[0], rng.randint(2, 9)), rng.choice(["any", "any", "up", "down"]))
             for name in "abcd"[:rng.randint(2, 4)]]
    hall = Hall(things, bells)
    rules = []
    for _ in range(rng.randint(1, most)):
        whiles = tuple((name, rng.choice(own)[0]) for name, own in things if rng.random() < 0.25)
        thing, own = rng.choice(things)
        rules.append((rng.choice(bells)[0], whiles, thing, rng.choice(own)[0]))
    return Ruled(hall, rules)


def some_or_lively(rng, most):
    return some_ruled(rng, most) if rng.random() < 0.3 else lively_ruled(rng, most)


def some_tale_wish(rng):
    bells = "abcdz"
    return rng.choice([wish_rings(rng.choice(bells), rng.randint(1, 3)), wish_last(rng.choice(bells)),
                       wish_ahead(*rng.sample(bells, 2)), wish_denied(wish_rings(rng.choice(bells), rng.randint(1, 3)))])


class TestOrders(BellCase):

    def test_by_hand(self):
        self.assert_same(clashes_of(CLASHING), ((0, "cat", (0, 2)),))
        self.assert_same(kept_orders(CLASHING), 3)
        self.assert_same(bound_pairs(CLASHING), ((0, 2),))
        self.assert_same(parted_order(CLASHING, (2, 1, 0)), (0, "cat"))
        self.assert_same(parted_order(ruled=CLASHING, order=[1, 0, 2]), None)
        self.assert_same(parted_order(CLASHING, [0, 2, 1]), None)

    def test_no_clash(self):
        for ruled, many in ((RULED, 2), (Ruled(EXAMPLE), 1), (Ruled(Hall(EXAMPLE.things, ())), 1),
                            (Ruled(EXAMPLE, RULED.rules[:1] * 3), 6)):
            self.assert_same(clashes_of(ruled=ruled), ())
            self.assert_same(kept_orders(ruled=ruled), many)
            self.assert_same(bound_pairs(ruled=ruled), ())
            self.assert_same(parted_order(ruled, list(range(len(ruled.rules)))[::-1]), None)

    def test_clash_at_a_later_round(self):
        # At 3 the cat turns back; at 4 the second and the third rule fit by what it follows then.
        ruled = Ruled.read(EXAMPLE, "when tick turn cat back\nwhen tock while cat back turn cat run\n"
                           "when tock while cat back turn cat back")
        self.assert_same(clashes_of(ruled), ((1, "cat", (1, 2)),))
        self.assert_same(bound_pairs(ruled), ((1, 2),))
        self.assert_same(parted_order(ruled, (2, 1, 0)), (1, "cat"))

    def test_things_stand_as_in_the_hall(self):
        hall = Hall.read("thing dog\nway a 0 1\nway b 5\nthing cat\nway u 0 1\nway v 9\nbell x at cat 2 any")
        rules = [("x", (), "cat", "v"), ("x", (), "dog", "b"), ("x", (), "dog", "a"), ("x", (), "cat", "u"),
                 ("x", (("dog", "b"),), "cat", "u")]
        ruled = Ruled(hall, rules)
        self.assert_same(clashes_of(ruled), ((0, "dog", (1, 2)), (0, "cat", (0, 3))))
        self.assert_same(bound_pairs(ruled), ((0, 3), (1, 2)))
        self.assert_same(kept_orders(ruled), 30)
        self.assert_same(parted_order(ruled, (3, 2, 1, 0, 4)), (0, "dog"))
        self.assert_same(parted_order(ruled, (3, 1, 2, 0, 4)), (0, "cat"))

    def test_by_the_runs(self):
        rng = source(400)
        for _ in range(40):
            ruled = some_or_lively(rng, 4)
            self.assert_same(clashes_of(ruled), known_clashes(ruled))
            orders = list(itertools.permutations(range(len(ruled.rules))))
            kept = [order for order in orders if told_run(ruled.ordered(order)) == told_run(ruled)]
            self.assert_same(kept_orders(ruled), len(kept))
            pairs = [pair for pair in itertools.permutations(range(len(ruled.rules)), 2)
                     if all(order.index(pair[0]) < order.index(pair[1]) for order in kept)]
            self.assert_same(bound_pairs(ruled), tuple(pairs))
            for order in orders:
                told = parted_order(ruled, order)
                self.assertEqual(told is None, order in kept)
                if told is not None:
                    self.check_parted(ruled, order, told)

    def check_parted(self, ruled, order, told):
        """The runs go alike to the round, at which the thing is the first that is turned otherwise."""
        at, thing = told
        ones, others = told_run(ruled), told_run(ruled.ordered(order))
        self.assertEqual(ones[:at], others[:at])
        self.assertEqual(ones[at][:2], others[at][:2])
        names = [name for name, _ in ruled.hall.things]
        unlike = [name for place, name in enumerate(names) if ones[at][2][place] != others[at][2][place]]
        self.assertEqual(thing, unlike[0])

    def test_wrong_orders(self):
        for value in ANY_VALUES + ((0, 1), (0, 0, 1), (0, 1, 3), (0, 1, True), (-1, 0, 1), "012", (0, 1, 2, 2), {0, 1, 2}):
            self.assert_error(InvalidSize, {"word": "order"}, parted_order, CLASHING, value)
        for value in ANY_VALUES:
            if value not in ((), []):
                self.assert_error(InvalidSize, {"word": "order"}, parted_order, Ruled(EXAMPLE), value)


class TestLots(BellCase):

    def test_by_hand(self):
        self.assert_same(keeps_tale(CLASHING, (0, 1)), True)
        self.assert_same(keeps_tale(lot=[0], ruled=CLASHING), False)
        self.assert_same(least_kept(CLASHING), ((0, 1),))
        self.assert_same(keeping_gap(CLASHING), None)
        # Without rules the cat rings at 3 and 6; the second rule leaves it as it is.
        single = Ruled(EXAMPLE, RULED.rules[1:])
        self.assert_same(least_kept(single), ((),))
        self.assert_same(least_kept(Ruled(EXAMPLE)), ((),))
        self.assert_same(keeping_gap(single), None)

    def test_gap(self):
        # The first rule sends the cat away, the second one in its stead keeps it, the third one is ahead of none.
        ruled = Ruled.read(EXAMPLE, "when tick turn cat run\nwhen tick turn cat back")
        self.assert_same(least_kept(ruled), ((),))
        self.assert_same(keeping_gap(ruled), ((), (1,)))
        self.assert_same(keeps_tale(ruled, ()), True)
        self.assert_same(keeps_tale(ruled, [1]), False)

    def test_by_the_runs(self):
        rng = source(401)
        gaps = 0
        for _ in range(80):
            ruled = lively_ruled(rng, 3)
            lots = all_lots(ruled)
            keeping = [lot for lot in lots if Run(ruled.only(lot)).tale == Run(ruled).tale]
            for lot in lots:
                self.assert_same(keeps_tale(ruled, rng.choice([list, tuple])(lot)), lot in keeping)
            least = [lot for lot in keeping if not any(set(one) < set(lot) for one in keeping)]
            self.assert_same(least_kept(ruled), tuple(least))
            gap = [(lot, other) for lot in keeping for other in lots if set(lot) < set(other) and other not in keeping]
            self.assert_same(keeping_gap(ruled), gap[0] if gap else None)
            gaps += len(gap) > 0
        self.assertGreater(gaps, 1)

    def test_none_may_be_left_out(self):
        self.assert_same(least_kept(RULED), ((0, 1),))

    def test_wrong_lots(self):
        for value in ANY_VALUES + ((1, 0), (0, 0), (0, 2), (True,), (-1,), "0", {0}):
            if value not in ((), []):
                self.assert_error(InvalidSize, {"word": "lot"}, keeps_tale, RULED, value)


class TestServing(BellCase):

    def test_by_hand(self):
        self.assert_same(serving_rules(CLASHING, wish_rings("tick")), ((), (("tick",), ("tock",))))
        self.assert_same(serving_rules(wish=wish_rings("tock", 2), ruled=CLASHING), ((0, 1), (("tick",), ("tock",), ("tock",))))
        self.assert_same(serving_rules(CLASHING, NEVER), None)
        self.assert_same(serving_rules(CLASHING, wish_denied(wish_rings("owl"))), ((), (("tick",), ("tock",))))
        self.assert_same(serving_rules(CLASHING, wish_rings("owl")), None)

    def test_tree_by_hand(self):
        tree = never_tree(CLASHING, NEVER)
        self.assert_same(tree_holds(CLASHING, NEVER, tree), True)
        for value in ((0, (1, (), ()), ()), (0, (1, (2, (), ()), ()), ()), (0, (1, (), ()), (2, (), ())),
                      (1, (0, (), ()), (0, (), ())), (2, (0, (1, (), ()), ()), (0, (1, (), ()), ()))):
            self.assert_same(tree_holds(CLASHING, NEVER, value), is_known_tree(CLASHING, NEVER, value))
        self.assert_same(tree_holds(ruled=CLASHING, wish=NEVER, value=(0, (1, (), ()), ())), True)
        self.assert_same(tree_holds(CLASHING, NEVER, (0, (1, (), ()), (0, (1, (), ()), ()))), False)
        for value in ((), (0, (), ()), (1, (), ()), (2, (), ()), (0, (0, (), ()), ()), (0, (1, (), ()), (0, (), ())),
                      (0, (1, (1, (), ()), ()), ()), (3, (), ()), (-1, (), ()), (False, (1, (), ()), ()),
                      [0, (1, (), ()), ()], (0, [1, (), ()], ()), (0, (1, (), ()), []), (0, (1, (), ())), (0, (1, (), ()), (), ()),
                      (0, None, ()), (0, (1, (), None), ()), (0, (True, (), ()), ()), ("0", (), ())):
            self.assert_same(tree_holds(CLASHING, NEVER, value), False)
        for value in ANY_VALUES:
            self.assert_same(tree_holds(CLASHING, NEVER, value), False)
            self.assert_same(tree_holds(CLASHING, NEVER, (0, (1, (), ()), value)), isinstance(value, tuple) and value == ())
            self.assert_same(tree_holds(Ruled(EXAMPLE), NEVER, value), isinstance(value, tuple) and value == ())

    def test_a_wish_that_is_served(self):
        self.assert_same(never_tree(CLASHING, wish_rings("tick")), None)
        self.assert_same(tree_holds(CLASHING, wish_rings("tick"), (0, (1, (), ()), ())), False)
        self.assert_same(tree_holds(CLASHING, wish_rings("tock", 2), (0, (1, (), ()), ())), False)

    def test_by_the_runs(self):
        rng = source(402)
        told = {True: 0, False: 0}
        for _ in range(90):
            ruled, wish = some_or_lively(rng, 4), some_tale_wish(rng)
            serving = [lot for lot in all_lots(ruled) if wish.takes(Run(ruled.only(lot)).tale)]
            wanted = (serving[0], Run(ruled.only(serving[0])).tale) if serving else None
            self.assert_same(serving_rules(ruled, wish), wanted)
            tree = self.assert_kept(never_tree, ruled, wish)
            self.assertEqual(tree is None, bool(serving))
            told[bool(serving)] += 1
            if tree is not None:
                self.assertTrue(is_known_tree(ruled, wish, tree))
                self.assert_same(tree_holds(ruled, wish, tree), True)
            for value in self.some_trees(rng, ruled):
                self.assert_same(tree_holds(ruled, wish, value), is_known_tree(ruled, wish, value))
                self.assertFalse(serving and tree_holds(ruled, wish, value))
        self.assertGreater(min(told.values()), 20)

    def some_trees(self, rng, ruled):
        """Trees that ask each rule in some order, to some depth."""
        def grow(order, depth):
            return () if not order or depth == 0 else (order[0], grow(order[1:], depth - 1), grow(order[1:], depth - 1))
        numbers = list(range(len(ruled.rules)))
        return [grow(rng.sample(numbers, len(numbers)), rng.randint(0, 4)) for _ in range(4)]

    def test_not_asked_where_nothing_would_turn(self):
        # The first rule in is ahead of the second; the second one alone is asked; what turns to the same way is not.
        hall = Hall.read("thing cat\nway run 0 1\nway sit 3\nway back 10 -1\nbell tick at cat 3 any\nbell tock at cat 6 any")
        ruled = Ruled.read(hall, "when tick turn cat sit\nwhen tick turn cat back\nwhen tock turn cat run")
        self.assert_same(tree_holds(ruled, NEVER, (0, (), (1, (2, (), ()), ()))), True)
        self.assert_same(tree_holds(ruled, NEVER, (1, (0, (), (2, (), ())), (0, (), ()))), True)
        self.assert_same(tree_holds(ruled, NEVER, (0, (1, (), ()), ())), False)


class TestDeaf(BellCase):

    def test_by_hand(self):
        # Deaf at the first tock, the cat comes back down to 3.
        wish = wish_rings("tick", 2)
        self.assert_same(deafened_rules(RULED, wish, 1), ((1, 1),))
        self.assert_same(deafened_rules(RULED, wish, 0), None)
        self.assert_same(deafened_rules(ruled=RULED, wish=wish_rings("tock"), most=2), ())
        self.assert_same(deafened_rules(RULED, wish_rings("tick", 3), 2), None)
        self.assert_same(deaf_tree(RULED, wish, 0), ())
        self.assert_same(deaf_tree(RULED, wish, 1), None)
        self.assert_same(deaf_tree(RULED, NEVER, 1), (((0, 1), ()), ((1, 1), ()), ((1, 2), ())))
        self.assert_same(deaf_holds(RULED, wish, 0, ()), True)
        self.assert_same(deaf_holds(RULED, wish_rings("tock"), 0, ()), False)
        self.assert_same(deaf_holds(RULED, wish_rings("tock"), 0, None), False)
        self.assert_same(deaf_holds(RULED, wish, 1, None), False)
        self.assert_same(deaf_holds(RULED, wish, 1, (((0, 1), ()), ((1, 1), ()), ((1, 2), ()))), False)
        self.assert_same(deaf_tree(Ruled(EXAMPLE), NEVER, 2), ())
        self.assert_same(deaf_holds(Ruled(EXAMPLE), NEVER, 2, ()), True)

    def test_the_later_one_must_be_deaf_first(self):
        # Only behind a that goes unheard does c ring: still the pair of c is told first.
        hall = Hall.read("thing cat\nway u 0 1\nway v 11 -1\nway w 3\nbell a at cat 3 any\nbell b at cat 8 up\n"
                         "bell c at cat 5 up")
        ruled = Ruled.read(hall, "when b turn cat u\nwhen c turn cat v\nwhen a turn cat v")
        self.assertNotIn((1, 1), acted_pairs(ruled, ()))
        self.assert_same(deafened_rules(ruled, wish_rings("b"), 2), ((1, 1), (2, 1)))

    def test_holds_is_this_tree_alone(self):
        tree = (((0, 1), ()), ((1, 1), ()), ((1, 2), ()))
        self.assert_same(deaf_holds(RULED, NEVER, 1, tree), True)
        for value in (tree[:2], tree[::-1], tree + tree[:1], (), list(tree), (((False, 1), ()),) + tree[1:],
                      (((0, True), ()),) + tree[1:], ([(0, 1), ()],) + tree[1:], (([0, 1], ()),) + tree[1:],
                      (((0, 1), []),) + tree[1:], (((0, 1), (((1, 1), ()),)),) + tree[1:], (((0, 2), ()),) + tree[1:]):
            self.assert_same(deaf_holds(RULED, NEVER, 1, value), False)
        for value in ANY_VALUES:
            self.assert_same(deaf_holds(RULED, NEVER, 1, value), False)
            self.assert_same(deaf_holds(RULED, NEVER, 1, (value,) + tree[1:]), False)
            self.assert_same(deaf_holds(RULED, NEVER, 0, value), isinstance(value, tuple) and value == ())

    def test_two_pairs(self):
        rng = source(403)
        told = {}
        for _ in range(150):
            ruled, wish, most = some_or_lively(rng, 3), some_tale_wish(rng), rng.randint(0, 2)
            longest = max([len(Run(ruled).rounds)] + [len(Run(ruled, deaf=[pair]).rounds) for pair in acted_pairs(ruled, ())])
            pairs = [(number, n) for number in range(len(ruled.rules)) for n in range(1, longest + 1)]
            if len(pairs) > 12:
                continue
            lots = [lot for many in range(most + 1) for lot in itertools.combinations(pairs, many)]
            serving = [lot for lot in lots if wish.takes(Run(ruled, deaf=lot).tale)]
            self.assert_same(deafened_rules(ruled, wish, most), serving[0] if serving else None)
            tree = self.assert_kept(deaf_tree, ruled, wish, most)
            self.assert_same(tree, known_deaf_tree(ruled, wish, most))
            self.assertEqual(tree is None, bool(serving))
            key = len(serving[0]) if serving else None
            told[key] = told.get(key, 0) + 1
            if tree is not None:
                self.assert_same(deaf_holds(ruled, wish, most, tree), True)
        self.assertTrue(all(told.get(key, 0) > 1 for key in (0, 1, None)), told)

    def test_fewest_are_two(self):
        # Three ticks send the cat back and forth; two of them must go unheard.
        hall = Hall.read("thing cat\nway a 0 1\nway b 10 -1\nbell x at cat 3 any\nbell y at cat 4 any\nbell z at cat 8 any")
        ruled = Ruled.read(hall, "when x turn cat b\nwhen y turn cat b")
        wish = wish_rings("z")
        self.assert_same(Run(ruled).tale[:2], (("x",), ("y",)))
        pairs = acted_pairs(ruled, ())
        told = deafened_rules(ruled, wish, 2)
        served = [lot for many in range(3) for lot in itertools.combinations([(r, n) for r in (0, 1) for n in (1, 2, 3)], many)
                  if wish.takes(Run(ruled, deaf=lot).tale)]
        self.assert_same(told, served[0])
        self.assertEqual(len(told), 2)
        self.assertTrue(pairs)

    def test_wrong_most(self):
        for value in ANY_VALUES + (-1, True, "1", None):
            if value.__class__ is int and value >= 0:
                continue
            for call in (deafened_rules, deaf_tree):
                self.assert_error(InvalidSize, {"word": "most"}, call, RULED, NEVER, value)
            self.assert_error(InvalidSize, {"word": "most"}, deaf_holds, RULED, NEVER, value, value)


class TestGreatest(BellCase):

    def test_soon(self):
        rng = source(404)
        things = [(name, tuple((way, some_curve(rng, 4, 99)) for way in "uv")) for name in "abc"]
        bells = [("k", "near", ("a", "b", 9), "any"), ("l", "mid", ("a", "b", "c"), "any"),
                 ("m", "near", ("b", "c", 99), "any"), ("n", "near", ("a", "c", 50), "any")]
        told = itertools.product("klmn", "abc", "vu")
        rules = [(bell, (), thing, way) for bell, thing, way in itertools.islice(told, 6)]
        ruled = Ruled(Hall(things, bells), rules)
        never = wish_rings("z")
        for call, arguments in ((clashes_of, ()), (kept_orders, ()), (bound_pairs, ()), (least_kept, ()), (keeping_gap, ()),
                                (parted_order, ((5, 4, 3, 2, 1, 0),)), (keeps_tale, ((1, 3, 5),)), (serving_rules, (never,)),
                                (never_tree, (never,)), (deafened_rules, (never, 2)), (deaf_tree, (never, 2))):
            self.assert_soon(3, call, ruled, *arguments)
        self.assert_same(self.assert_soon(3, tree_holds, ruled, never, never_tree(ruled, never)), True)
        self.assert_same(self.assert_soon(3, deaf_holds, ruled, never, 2, deaf_tree(ruled, never, 2)), True)

    def test_arguments_stay(self):
        before = picture((CLASHING, NEVER))
        order, lot = [2, 1, 0], [0, 1]
        parted_order(CLASHING, order)
        keeps_tale(CLASHING, lot)
        never_tree(CLASHING, NEVER)
        self.assertEqual((order, lot), ([2, 1, 0], [0, 1]))
        self.assertEqual(picture((CLASHING, NEVER)), before)
        self.assertIsInstance(NEVER, Wish)


if __name__ == "__main__":
    unittest.main()
