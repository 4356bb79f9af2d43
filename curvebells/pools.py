"""Pools of rules: clashes, orders that keep the run, lots that keep the tale, and what serves a wish or never does."""

from itertools import combinations, permutations

from curvebells.courses import Course
from curvebells.errors import InvalidSize
from curvebells.halls import thing_number, way_number
from curvebells.runs import Run, fitting_rules, rounds_by
from curvebells.values import is_lot_below, is_number, is_same
from curvebells.wishes import has_all


class Pool:
    """A hall with rules, and the runs by some of them, each led once."""

    def __init__(self, ruled):
        self.ruled = ruled
        self.rings = Course(ruled.hall).rings
        self.led = {}
        self.deafened = {}

    def rounds_with(self, lot):
        """The rounds by the rules of a lot alone."""
        if lot not in self.led:
            self.led[lot] = rounds_by(self.ruled.only(lot), self.rings, 0, self.ruled.hall.first, ())
        return self.led[lot]

    def tale_with(self, lot):
        """The tale by the rules of a lot alone."""
        return tuple([told[1] for told in self.rounds_with(lot)])

    def rounds_without(self, deaf):
        """The rounds if some pairs are deaf."""
        if deaf not in self.deafened:
            self.deafened[deaf] = rounds_by(self.ruled, self.rings, 0, self.ruled.hall.first, deaf)
        return self.deafened[deaf]

    def tale_without(self, deaf):
        """The tale if some pairs are deaf."""
        return tuple([told[1] for told in self.rounds_without(deaf)])

    def acted_without(self, deaf):
        """The pairs that act if some pairs are deaf, ascending."""
        heard = {}
        pairs = []
        for told in self.rounds_without(deaf):
            for name in told[1]:
                heard[name] = heard.get(name, 0) + 1
            pairs = pairs + [(number, heard[self.ruled.rules[number][0]]) for number in told[2]]
        return sorted(pairs)

    def lots(self):
        """All lots of rules, ordered."""
        numbers = list(range(len(self.ruled.rules)))
        return [lot for many in range(len(numbers) + 1) for lot in combinations(numbers, many)]

    def is_keeping(self, lot):
        """Whether a lot of rules gives the tale of all."""
        return self.tale_with(lot) == self.tale_with(tuple(range(len(self.ruled.rules))))

    def keeping_lots(self):
        """All lots of rules that give the tale of all, ordered."""
        return [lot for lot in self.lots() if self.is_keeping(lot)]


def clashes_of(ruled):
    """All clashes: (round, thing, fitting rules that turn it, not all to one way)."""
    clashes = []
    ahead = ruled.hall.first
    for at, told in enumerate(Run(ruled).rounds):
        fitting = fitting_rules(ruled, told[1], ahead)
        for thing in ruled.hall.things:
            rules = [number for number in fitting if ruled.rules[number][2] == thing[0]]
            if len(set([ruled.rules[number][3] for number in rules])) > 1:
                clashes.append((at, thing[0], tuple(rules)))
        ahead = told[3]
    return tuple(clashes)


def is_kept_by(ruled, rules, order):
    """Whether of fitting rules the first one in an order turns to the way to which the first one of all does."""
    firsts = [number for number in order if number in rules]
    return ruled.rules[firsts[0]][3] == ruled.rules[rules[0]][3]


def keeping_orders(ruled):
    """All orders of the rules that keep the run."""
    fitting = list({clash[2]: True for clash in clashes_of(ruled)})
    numbers = list(range(len(ruled.rules)))
    return [order for order in permutations(numbers) if all([is_kept_by(ruled, rules, order) for rules in fitting])]


def kept_orders(ruled):
    """How many orders of the rules keep the run."""
    return len(keeping_orders(ruled))


def bound_pairs(ruled):
    """All pairs (i, j), ascending, i ahead of j in each order that keeps the run."""
    kept = keeping_orders(ruled)
    numbers = list(range(len(ruled.rules)))
    pairs = []
    # The order as it is keeps the run, so only later rules can be behind in each.
    for pair in combinations(numbers, 2):
        if all([order.index(pair[0]) < order.index(pair[1]) for order in kept]):
            pairs.append(pair)
    return tuple(pairs)


def parted_order(ruled, order):
    """None if an order keeps the run, else (round, thing) of the first clash that it decides otherwise; any value."""
    ruled.ordered(order)
    for at, thing, rules in clashes_of(ruled):
        if not is_kept_by(ruled, rules, order):
            return (at, thing)
    return None


def keeps_tale(ruled, lot):
    """Whether the rules of a lot alone give the tale that all give; any value as the lot."""
    ruled.only(lot)
    return Pool(ruled).is_keeping(tuple(lot))


def least_kept(ruled):
    """All lots that give the tale that all give, and of which no smaller part does, ordered."""
    least = []
    for lot in Pool(ruled).keeping_lots():
        if not any([has_all(lot, one) for one in least]):
            least.append(lot)
    return tuple(least)


def keeping_gap(ruled):
    """The first pair (lot, other): the lot gives the tale, the other one, which has all of it, does not; or None."""
    pool = Pool(ruled)
    keeping = pool.keeping_lots()
    for lot in keeping:
        for other in pool.lots():
            if has_all(other, lot) and other not in keeping:
                return (lot, other)
    return None


def serving_rules(ruled, wish):
    """(lot, tale) for the first lot of rules by which a tale comes that a wish takes, or None."""
    pool = Pool(ruled)
    for lot in pool.lots():
        if wish.takes(pool.tale_with(lot)):
            return (lot, pool.tale_with(lot))
    return None


def asked_rule(pool, inside, outside):
    """Some open rule that is asked at a round of the run by those inside, or None."""
    ruled = pool.ruled
    ahead = ruled.hall.first
    for told in pool.rounds_with(inside):
        for number in fitting_rules(ruled, told[1], ahead):
            if number not in inside and number not in outside:
                if turns_otherwise(ruled, number, told[3]) and not is_ousted(ruled, inside, number, told[1], ahead):
                    return number
        ahead = told[3]
    return None


def turns_otherwise(ruled, number, ways):
    """Whether a rule turns its thing to another way than it follows by some ways."""
    thing, way = ruled.rules[number][2:]
    return ways[thing_number(ruled.hall, thing)] != way_number(ruled.hall, thing, way)


def is_ousted(ruled, inside, number, lot, ways):
    """Whether some fitting rule that is inside, and ahead of a rule, turns the same thing."""
    fitting = [other for other in fitting_rules(ruled, lot, ways) if other in inside and other < number]
    return ruled.rules[number][2] in [ruled.rules[other][2] for other in fitting]


def never_tree(ruled, wish):
    """Some tree that shows that no lot of rules serves a wish, or None if one does."""
    return grown_tree(Pool(ruled), wish, (), ())


def grown_tree(pool, wish, inside, outside):
    """The tree for some rules inside and some outside, or None."""
    asked = asked_rule(pool, inside, outside)
    if asked is None:
        return None if wish.takes(pool.tale_with(inside)) else ()
    trees = []
    for more, less in (((asked,), ()), ((), (asked,))):
        tree = grown_tree(pool, wish, tuple(sorted(inside + more)), outside + less)
        if tree is None:
            return None
        trees.append(tree)
    return (asked, *trees)


def tree_holds(ruled, wish, value):
    """Whether any value is a tree that shows that no lot of rules serves a wish."""
    return is_tree(Pool(ruled), wish, value, (), ())


def is_tree(pool, wish, value, inside, outside):
    """Whether any value is such a tree for some rules inside and some outside."""
    if not isinstance(value, tuple):
        return False
    if len(value) == 0:
        return asked_rule(pool, inside, outside) is None and not wish.takes(pool.tale_with(inside))
    if len(value) != 3 or not is_lot_below(value[:1], len(pool.ruled.rules)):
        return False
    number = value[0]
    if number in inside or number in outside:
        return False
    if not is_tree(pool, wish, value[1], tuple(sorted(inside + (number,))), outside):
        return False
    return is_tree(pool, wish, value[2], inside, outside + (number,))


def need_most(most):
    """Raises InvalidSize for any value that is no number."""
    if not is_number(most):
        raise InvalidSize("most")


def deafened_rules(ruled, wish, most):
    """The fewest, then least, pairs, at most so many, that serve a wish if deaf, or None; any value as most."""
    need_most(most)
    pool = Pool(ruled)
    level = [()]
    # What would not act may as well not be deaf: so fewest pairs come one by one, each acting ahead.
    while level and len(level[0]) <= most:
        for deaf in sorted(level):
            if wish.takes(pool.tale_without(deaf)):
                return deaf
        level = list({tuple(sorted((*deaf, pair))): True for deaf in level for pair in pool.acted_without(deaf)})
    return None


def deaf_tree(ruled, wish, most):
    """The tree of all pairs that act, that no few deaf ones serve a wish, or None if some do; any value as most."""
    need_most(most)
    return grown_deaf(Pool(ruled), wish, most, ())


def grown_deaf(pool, wish, most, deaf):
    """The tree behind some deaf pairs, or None."""
    if wish.takes(pool.tale_without(deaf)):
        return None
    if len(deaf) == most:
        return ()
    branches = []
    for pair in pool.acted_without(deaf):
        tree = grown_deaf(pool, wish, most, tuple(sorted((*deaf, pair))))
        if tree is None:
            return None
        branches.append((pair, tree))
    return tuple(branches)


def deaf_holds(ruled, wish, most, value):
    """Whether any value is the tree that no few deaf pairs serve a wish; any value as most."""
    tree = deaf_tree(ruled, wish, most)
    return tree is not None and is_same(value, tree)
