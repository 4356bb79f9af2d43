"""Promises [84] to [86]: silent rings, layings, and the least blame."""

import functools
import itertools
import unittest

from curvebells.errors import InvalidHeard, InvalidSize, Refused
from curvebells.rows import events_of
from curvebells.silent import (
    alike_silences, blame_worths, count_layings, first_laying, heard_for_sure, heard_tales, is_lot, is_tale,
    last_laying, least_blame, may_lie, silent_for_sure, stuck_at, worths_hold,
)
from tests.helpers import ANY_VALUES, BellCase, source

LOTS = (("a", "b"), ("a",), ("b", "c"), ("a", "b"))


def some_tale(rng, most, names="abc"):
    return tuple(tuple(sorted(rng.sample(names, rng.randint(1, len(names))))) for _ in range(rng.randint(0, most)))


def layings(lots, heard):
    """All layings, by trying all rows of ascending numbers."""
    return [numbers for numbers in itertools.combinations(range(len(lots)), len(heard))
            if all(set(lot) <= set(lots[number]) for lot, number in zip(heard, numbers))]


def without(lots, event):
    """The tale without an event, its lot left out if it is empty then."""
    number = [event in pairs for pairs in events_of(lots)].index(True)
    rest = tuple(name for name in lots[number] if name != event[0])
    return lots[:number] + ((rest,) if rest else ()) + lots[number + 1:]


def all_heard(lots):
    """All tales that can be heard: some names of each lot, empty lots left out."""
    parts = [[part for many in range(len(lot) + 1) for part in itertools.combinations(lot, many)] for lot in lots]
    return {tuple(lot for lot in chosen if lot) for chosen in itertools.product(*parts)}


def price_of(pair, lots, heard, missing, extra):
    lot = set(lots[pair[0]]) if pair[0] is not None else set()
    other = set(heard[pair[1]]) if pair[1] is not None else set()
    return missing * len(lot - other) + extra * len(other - lot)


def least_price(lots, heard, missing, extra):
    """The least price of a telling, by the words."""
    @functools.lru_cache(None)
    def least(i, j):
        prices = [least(i - k, j - m) + price_of((i - 1 if k else None, j - 1 if m else None), lots, heard, missing, extra)
                  for k, m in ((1, 0), (0, 1), (1, 1)) if k <= i and m <= j]
        return min(prices, default=0)
    return [[least(i, j) for j in range(len(heard) + 1)] for i in range(len(lots) + 1)]


class TestTales(BellCase):

    def test_lots_and_tales(self):
        for lot in (("a",), ("a", "b"), ("abcdefgh", "b"), ("b", "ba")):
            self.assertIs(is_lot(lot), True)
            self.assertIs(is_lot(value=list(lot)), False)
            self.assertIs(is_tale((lot, lot)), True)
            self.assertIs(is_tale([lot]), False)
            self.assertIs(is_tale((list(lot),)), False)
            self.assertIs(is_tale(lot), False)
        for value in ((), ("a", "a"), ("b", "a"), ("A",), ("",), ("abcdefghi",), ("a", 1), (None,), "a", None, 3):
            self.assertIs(is_lot(value), False)
            self.assertIs(is_tale((("a",), value)), False)
        self.assertIs(is_tale(value=()), True)
        for value in ANY_VALUES:
            self.assertIs(is_lot(value), value == ("a",))
            self.assertIs(is_tale(value), value == ())
            self.assertIs(is_tale((value,)), value == ("a",))

    def test_no_tales(self):
        pairs = (stuck_at, first_laying, last_laying, may_lie, count_layings, silent_for_sure, heard_for_sure)
        priced = (lambda one, other: blame_worths(one, other, None, None), lambda one, other: least_blame(one, other, 0, -1),
                  lambda one, other: worths_hold(one, other, -1, 0, 0, None))
        for value in list(ANY_VALUES) + [(("a",), ()), (("b", "a"),), [("a",)], (["a"],), (("a", "a"),), (("a",), 1)]:
            if value == ():
                continue
            for call in pairs + priced:
                self.assert_error(InvalidHeard, {"at": 0}, call, value, value)
                self.assert_error(InvalidHeard, {"at": 1}, call, (), value)
            self.assert_error(InvalidHeard, {"at": 0}, heard_tales, value)
            self.assert_error(InvalidHeard, {"at": 0}, alike_silences, value, None, None)


class TestLayings(BellCase):

    def test_by_hand(self):
        heard = (("a",), ("b",))
        self.assertIsNone(stuck_at(LOTS, heard))
        self.assert_same(first_laying(LOTS, heard), (0, 2))
        self.assert_same(last_laying(lots=LOTS, heard=heard), (1, 3))
        self.assert_same(may_lie(LOTS, heard), ((0, 1), (2, 3)))
        self.assert_same(count_layings(LOTS, heard), 4)
        self.assert_same(silent_for_sure(LOTS, heard), (("a", 3), ("b", 1), ("c", 1)))
        self.assert_same(heard_for_sure(LOTS, heard), ())
        self.assert_same(heard_for_sure(LOTS, (("a",), ("a",), ("c",))), (("a", 1), ("a", 2), ("c", 1)))

    def test_nothing_heard(self):
        self.assert_same(first_laying(LOTS, ()), ())
        self.assert_same(last_laying((), ()), ())
        self.assert_same(may_lie(LOTS, ()), ())
        self.assert_same(count_layings(LOTS, ()), 1)
        self.assert_same(count_layings((), ()), 1)
        self.assert_same(silent_for_sure(LOTS, ()), (("a", 1), ("a", 2), ("a", 3), ("b", 1), ("b", 2), ("b", 3), ("c", 1)))
        self.assert_same(heard_for_sure(LOTS, ()), ())

    def test_no_laying(self):
        for heard, at in (((("c",), ("c",)), 1), ((("a", "c"),), 0), ((("z",), ("a",)), 0), ((("a",),) * 4, 3),
                          ((("b",), ("b", "c"), ("a",), ("a",)), 3)):
            self.assert_same(stuck_at(LOTS, heard), at)
            for call in (first_laying, last_laying, may_lie, count_layings, silent_for_sure, heard_for_sure):
                self.assert_error(Refused, {"at": at}, call, LOTS, heard)
        self.assert_same(stuck_at((), (("a",),)), 0)

    def test_by_the_words(self):
        rng = source(140)
        for _ in range(150):
            lots, heard = some_tale(rng, 6), some_tale(rng, 3, rng.choice(["ab", "abc", "a"]))
            found = layings(lots, heard)
            stuck = None
            if not found:
                stuck = max(many for many in range(len(heard)) if layings(lots, heard[:many]))
            self.assert_same(self.assert_kept(stuck_at, lots, heard), stuck)
            if stuck is not None:
                continue
            self.assert_same(first_laying(lots, heard), min(found))
            self.assert_same(last_laying(lots, heard), max(found))
            self.assert_same(may_lie(lots, heard), tuple(tuple(sorted(set(numbers))) for numbers in zip(*found)))
            self.assert_same(count_layings(lots, heard), len(found))
            self.check_events(lots, heard, found)

    def check_events(self, lots, heard, found):
        silent, sure = [], []
        for number, pairs in enumerate(events_of(lots)):
            for event in pairs:
                told = [any(event[0] in lot and number == at for lot, at in zip(heard, laying)) for laying in found]
                if True not in told:
                    silent.append(event)
                if False not in told:
                    sure.append(event)
                self.assertEqual(False not in told, stuck_at(without(lots, event), heard) is not None)
        self.assert_same(silent_for_sure(lots, heard), tuple(sorted(silent)))
        self.assert_same(heard_for_sure(lots, heard), tuple(sorted(sure)))

    def test_each_number_is_least_and_greatest(self):
        rng = source(141)
        for _ in range(60):
            lots, heard = some_tale(rng, 6), some_tale(rng, 2, "ab")
            for laying in layings(lots, heard):
                self.assertTrue(all(one <= other for one, other in zip(first_laying(lots, heard), laying)))
                self.assertTrue(all(one >= other for one, other in zip(last_laying(lots, heard), laying)))


class TestEvents(BellCase):

    def test_heard_tales(self):
        self.assert_same(heard_tales(()), 1)
        self.assert_same(heard_tales((("a",),)), 2)
        self.assert_same(heard_tales(lots=(("a",), ("a",))), 3)
        self.assert_same(heard_tales((("a", "b"),)), 4)
        rng = source(142)
        for _ in range(60):
            lots = some_tale(rng, 5, rng.choice(["ab", "abc", "a"]))
            self.assert_same(self.assert_kept(heard_tales, lots), len(all_heard(lots)))

    def test_alike(self):
        lots = (("a",), ("a",), ("a", "b"), ("a",), ("b",))
        for one, other, wanted in ((("a", 1), ("a", 2), True), (("a", 2), ("a", 3), False), (("a", 3), ("a", 3), True),
                                   (("a", 3), ("a", 4), False), (("b", 1), ("b", 2), False), (("a", 1), ("b", 1), False)):
            self.assert_same(alike_silences(lots, one, other), wanted)
            self.assert_same(alike_silences(lots=lots, one=other, other=one), wanted)

    def test_alike_by_the_words(self):
        rng = source(143)
        for _ in range(60):
            lots = some_tale(rng, 6, rng.choice(["ab", "a", "abc"]))
            events = [event for pairs in events_of(lots) for event in pairs]
            for one, other in itertools.product(events, events):
                numbers = sorted([event in pairs for pairs in events_of(lots)].index(True) for event in (one, other))
                alone = all(lots[at] == (one[0],) for at in range(numbers[0], numbers[1] + 1))
                wanted = one == other or (one[0] == other[0] and alone)
                self.assert_same(alike_silences(lots, one, other), wanted)
                self.assertEqual(without(lots, one) == without(lots, other), wanted)

    def test_no_events(self):
        wrong = [("a", 0), ("a", 4), ("c", 2), ("z", 1), ("a", True), ["a", 1], ("a",), ("a", 1, 1), (1, "a"), ("a", "1"),
                 ("a", -1)]
        for value in wrong + list(ANY_VALUES):
            self.assert_error(InvalidHeard, {"at": 1}, alike_silences, LOTS, value, value)
            self.assert_error(InvalidHeard, {"at": 2}, alike_silences, LOTS, ("a", 3), value)
        self.assert_error(InvalidHeard, {"at": 1}, alike_silences, (), ("a", 1), None)


class TestBlame(BellCase):

    def test_by_hand(self):
        heard = (("a",), ("c", "z"))
        self.assert_same(least_blame(LOTS[:3], heard, 1, 3)[0], 6)
        self.assert_same(least_blame((), (), 1, 1), (0, ()))
        self.assert_same(least_blame((("a",),), (), 5, 1), (5, ((0, None),)))
        self.assert_same(least_blame(lots=(), heard=(("a", "b"),), missing=5, extra=2), (4, ((None, 0),)))
        self.assert_same(least_blame((("a", "b"),), (("a", "b"),), 5, 2), (0, ((0, 0),)))
        self.assert_same(blame_worths((("a", "b"),), (("a",), ("b",)), 5, 2), ((0, 2, 4), (10, 5, 7)))

    def test_by_the_words(self):
        rng = source(144)
        for _ in range(100):
            lots, heard = some_tale(rng, 5), some_tale(rng, 5, "abz")
            missing, extra = rng.randint(0, 4), rng.randint(0, 4)
            worths = self.assert_kept(blame_worths, lots, heard, missing, extra)
            wanted = least_price(lots, heard, missing, extra)
            self.assert_same(worths, tuple(tuple(row) for row in wanted))
            price, telling = self.assert_kept(least_blame, lots, heard, missing, extra)
            self.assert_same(price, wanted[-1][-1])
            self.check_telling(telling, lots, heard)
            self.assertEqual(sum(price_of(pair, lots, heard, missing, extra) for pair in telling), price)
            self.assert_same(worths_hold(lots, heard, missing, extra, price, worths), True)
            self.assert_same(worths_hold(lots, heard, missing, extra, price + 1, worths), False)

    def check_telling(self, telling, lots, heard):
        self.assertIsInstance(telling, tuple)
        self.assertNotIn((None, None), telling)
        self.assertEqual([one for one, _ in telling if one is not None], list(range(len(lots))))
        self.assertEqual([other for _, other in telling if other is not None], list(range(len(heard))))

    def test_prices(self):
        for call in (blame_worths, least_blame, lambda one, other, missing, extra: worths_hold(
                one, other, missing, extra, 0, None)):
            for value in ANY_VALUES:
                if not (isinstance(value, int) and not isinstance(value, bool) and value >= 0):
                    self.assert_error(InvalidSize, {"word": "missing"}, call, LOTS, (), value, value)
                    self.assert_error(InvalidSize, {"word": "extra"}, call, LOTS, (), 0, value)

    def test_worths(self):
        lots, heard = (("a", "b"),), (("a",), ("b",))
        worths = ((0, 2, 4), (10, 5, 7))
        for price, value, wanted in (
                (7, worths, True), (8, worths, False), (-5, worths, True), (7, ((0, 2, 4), (9, 5, 7)), True),
                (6, ((0, 2, 4), (10, 5, 6)), True), (7, ((0, 2, 4), (10, 5, 6)), False), (8, ((0, 2, 4), (10, 5, 8)), False),
                (7, ((1, 2, 4), (10, 5, 7)), False), (7, ((-1, 2, 4), (10, 5, 7)), False),
                (7, ((0, 3, 4), (10, 5, 7)), False), (7, ((0, 2, 5), (10, 5, 7)), False),
                (7, ((0, 2, 4), (11, 5, 7)), False), (7, ((0, 2, 4), (10, 6, 7)), False),
                (0, ((0, -9, -9), (-9, -9, 0)), False), (-9, ((0, -9, -9), (-9, -9, -9)), True),
                (7, [[0, 2, 4], [10, 5, 7]], False), (7, ([0, 2, 4], (10, 5, 7)), False), (7, ((0, 2, 4),), False),
                (7, ((0, 2), (10, 5)), False), (7, ((0, 2, 4), (10, 5)), False), (0, ((0, True, 1), (1, 1, 1)), False),
                (0, ((False, 1, 1), (1, 1, 1)), False), (7, worths + ((0, 0, 0),), False), (0, None, False)):
            self.assert_same(worths_hold(lots, heard, 5, 2, price, value), wanted)
        self.assert_same(worths_hold(lots=(), heard=(), missing=1, extra=1, price=0, value=((0,),)), True)
        for value in ANY_VALUES:
            self.assert_same(worths_hold((), (), 1, 1, 0, value), False)
            self.assert_same(worths_hold((), (), 1, 1, 0, ((value,),)), value == 0 and isinstance(value, int)
                             and not isinstance(value, bool))

    def test_no_cheaper_telling_is_shown(self):
        rng = source(145)
        for _ in range(60):
            lots, heard = some_tale(rng, 3), some_tale(rng, 3)
            worths = blame_worths(lots, heard, 2, 3)
            rows = [list(row) for row in worths]
            i, j = rng.randrange(len(rows)), rng.randrange(len(rows[0]))
            rows[i][j] += rng.choice((-2, -1, 1, 2))
            value = tuple(tuple(row) for row in rows)
            if worths_hold(lots, heard, 2, 3, worths[-1][-1], value):
                self.assertLessEqual(value[-1][-1], worths[-1][-1])

    def test_greatest(self):
        lots = (("a", "b", "c", "d"),) * 8
        heard = (("a", "b"),) * 4
        for call in (stuck_at, first_laying, last_laying, may_lie, silent_for_sure, heard_for_sure):
            self.assert_soon(1, call, lots, heard)
        self.assert_same(count_layings(lots, heard), 70)
        self.assert_same(self.assert_soon(1, heard_tales, lots), sum(15 ** many for many in range(9)))
        self.assert_soon(1, least_blame, lots, lots, 1000, 1000)


if __name__ == "__main__":
    unittest.main()
