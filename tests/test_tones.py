"""Promise [91]: names on tones, by which namings tales are told apart, and how many tones that takes."""

import itertools
import unittest

from curvebells.alike import parting_lots
from curvebells.errors import InvalidHeard, InvalidSize
from curvebells.rows import thin_tale
from curvebells.tones import (
    coarsest_namings, fewest_tones, finest_deaf, heard_tones, is_coarser, lots_matched, plain_naming, tones_needed,
    unheard_pairs,
)
from tests.helpers import ANY_VALUES, BellCase, picture, source
from tests.test_alike import ONE, OTHER, WRONG, all_lots, names_in, near_tale, some_tale

BAD_BELLS = [value for value in ANY_VALUES if value not in ((), ("a",)) or isinstance(value, list)] + [
    ("y", "x"), ("x", "x"), ["x", "y"], "xy", ("x", 1), ("X",), (("x",),)]


def known_heard(lots, bells, naming):
    told = dict(zip(bells, naming))
    heard = [tuple(sorted({told[name] for name in lot if told.get(name, 0)})) for lot in lots]
    return tuple(lot for lot in heard if lot)


def known_namings(many):
    """All plain namings, ascending, from all tuples of numbers."""
    namings = []
    for naming in itertools.product(range(many + 1), repeat=many):
        tones = [tone for tone in naming if tone]
        firsts = list(dict.fromkeys(tones))
        if firsts == list(range(1, len(firsts) + 1)):
            namings.append(naming)
    return namings


def known_coarser(naming, other):
    """By the words of [91]."""
    for tone in set(other):
        own = {one for one, told in zip(naming, other) if told == tone}
        if (tone == 0 and own != {0}) or len(own) > 1:
            return False
    return True


def known_unheard(tales, bells, naming):
    heard = [known_heard(tale, bells, naming) for tale in tales]
    told = [thin_tale(tale, bells) for tale in tales]
    return tuple((i, j) for i, j in itertools.combinations(range(len(tales)), 2)
                 if told[i] != told[j] and heard[i] == heard[j])


class TestNamings(BellCase):

    def test_plain(self):
        for naming, plain in (((), ()), ((0,), (0,)), ((5,), (1,)), ((2, 1), (1, 2)), ((3, 0, 3, 9), (1, 0, 1, 2)),
                              ((1, 2, 1, 0), (1, 2, 1, 0)), ((9, 8, 0, 8, 7), (1, 2, 0, 2, 3)), ((10 ** 9, 10 ** 9), (1, 1))):
            self.assert_same(plain_naming(naming), plain)
            self.assert_same(plain_naming(naming=plain), plain)

    def test_coarser_by_hand(self):
        for naming, other, wanted in (((), (), True), ((0,), (1,), True), ((1,), (0,), False), ((1, 1), (1, 2), True),
                                      ((1, 2), (1, 1), False), ((0, 0), (1, 1), True), ((0, 1), (1, 1), False),
                                      ((0, 1), (1, 2), True), ((1, 1, 0), (1, 2, 0), True), ((1, 1, 1), (1, 2, 0), False),
                                      ((5, 5), (7, 3), True), ((4, 4), (4, 4), True), ((0, 0), (0, 0), True),
                                      ((2, 1), (1, 2), True)):
            self.assert_same(is_coarser(naming, other), wanted)
            self.assert_same(is_coarser(naming=naming, other=other), wanted)
        self.assert_same(is_coarser((0,), (0, 0)), False)
        self.assert_same(is_coarser((0, 0), (0,)), False)

    def test_coarser_by_the_words(self):
        for naming, other in itertools.product(itertools.product(range(4), repeat=3), repeat=2):
            self.assert_same(is_coarser(naming, other), known_coarser(naming, other))

    def test_heard_by_hand(self):
        self.assert_same(heard_tones(ONE, ("x", "y"), (1, 2)), ((1,), (2,), (1,)))
        self.assert_same(heard_tones(lots=ONE, bells=("x", "y"), naming=(0, 3)), ((3,),))
        self.assert_same(heard_tones((("x", "y"), ("x", "z"), ("z",)), ("x", "y"), (2, 1)), ((1, 2), (2,)))
        self.assert_same(heard_tones((("x", "y"),), ("x", "y"), (4, 4)), ((4,),))
        self.assert_same(heard_tones(ONE, ("x", "y"), (0, 0)), ())
        self.assert_same(heard_tones(ONE, (), ()), ())
        self.assert_same(heard_tones((), ("a",), (1,)), ())

    def test_wrong(self):
        for value in WRONG:
            self.assert_error(InvalidHeard, {"at": 0}, heard_tones, value, None, None)
            for call in (tones_needed, lots_matched):
                self.assert_error(InvalidHeard, {"at": 0}, call, value, None)
                self.assert_error(InvalidHeard, {"at": 1}, call, ONE, value)
            self.assert_error(InvalidHeard, {"at": 1}, unheard_pairs, [ONE, value], None, None)
            for call in (coarsest_namings, finest_deaf, fewest_tones):
                self.assert_error(InvalidHeard, {"at": 1}, call, (ONE, value), None)
        for value in ANY_VALUES:
            if not isinstance(value, (list, tuple)):
                self.assert_error(InvalidHeard, {"at": -1}, unheard_pairs, value, None, None)
                for call in (coarsest_namings, finest_deaf, fewest_tones):
                    self.assert_error(InvalidHeard, {"at": -1}, call, value, None)

    def test_wrong_bells(self):
        for value in BAD_BELLS:
            self.assert_error(InvalidSize, {"word": "bells"}, heard_tones, ONE, value, None)
            self.assert_error(InvalidSize, {"word": "bells"}, unheard_pairs, [ONE], value, None)
            for call in (coarsest_namings, finest_deaf, fewest_tones):
                self.assert_error(InvalidSize, {"word": "bells"}, call, [ONE], value)

    def test_wrong_namings(self):
        for value in ANY_VALUES + ((1,), (1, 2, 3), [1, 2], (1, -1), (True, 1), (1, None), "12", (1, (2,))):
            if value.__class__ is tuple and len(value) == 2 and all(one.__class__ is int and one >= 0 for one in value):
                continue
            self.assert_error(InvalidSize, {"word": "naming"}, heard_tones, ONE, ("x", "y"), value)
            self.assert_error(InvalidSize, {"word": "naming"}, unheard_pairs, [ONE], ("x", "y"), value)


class TestTelling(BellCase):

    def test_example(self):
        self.assert_same(tones_needed(ONE, OTHER), (2, ("x", "y")))
        self.assert_same(lots_matched(ONE, OTHER), (0, 2, 1))
        self.assert_same(finest_deaf((ONE, OTHER), ("x", "y")), ((0, 1), (1, 0), (1, 1)))

    def test_by_hand(self):
        self.assert_same(unheard_pairs((ONE, OTHER, ONE), ("x", "y"), (1, 1)), ((0, 1), (1, 2)))
        self.assert_same(unheard_pairs(tales=[ONE, OTHER], bells=("x", "y"), naming=(7, 5)), ())
        self.assert_same(unheard_pairs([ONE, OTHER], ("x",), (0,)), ())
        self.assert_same(unheard_pairs([ONE, ONE[:2]], ("x",), (0,)), ((0, 1),))
        self.assert_same(coarsest_namings([ONE, OTHER], ("x", "y")), ((1, 2),))
        self.assert_same(coarsest_namings(tales=[ONE, ONE[:2]], bells=("x", "y")), ((1, 0), (1, 1)))
        self.assert_same(fewest_tones([ONE, OTHER], ("x", "y")), 2)
        self.assert_same(fewest_tones(tales=(ONE, ONE[:2]), bells=("x", "y")), 1)
        for tales in ((), [ONE], [ONE, ONE]):
            self.assert_same((coarsest_namings(tales, ("x", "y")), finest_deaf(tales, ("x", "y")), fewest_tones(tales, ("x",))),
                             (((0, 0),), (), 0))
        self.assert_same((coarsest_namings([ONE, OTHER], ()), finest_deaf([ONE, OTHER], ()), fewest_tones([ONE, OTHER], ())),
                         (((),), (), 0))

    def test_needed_by_hand(self):
        self.assert_same(tones_needed(ONE, ONE), (0, None))
        self.assert_same(tones_needed(one=ONE, other=ONE[:2]), (1, ("x",)))
        self.assert_same(tones_needed((), (("y", "z"),)), (1, ("y",)))
        # Each name as often, but once at once.
        self.assert_same(tones_needed((("x",), ("y",)), (("x", "y"),)), (1, ("x", "y")))
        self.assert_same(tones_needed((("x",), ("y",)), (("y",), ("x",))), (2, ("x", "y")))
        self.assert_same(lots_matched(one=ONE, other=ONE), (0, 1, 2))
        self.assert_same(lots_matched(ONE, ONE[:2]), None)
        self.assert_same(lots_matched(ONE[:2], ONE), None)
        self.assert_same(lots_matched((), ()), ())
        self.assert_same(lots_matched((("x",), ("y",)), (("x", "y"),)), None)
        self.assert_same(lots_matched((("x",), ("y",), ("x",), ("y",)), (("y",), ("y",), ("x",), ("x",))), (2, 0, 3, 1))

    def test_by_the_words(self):
        rng = source(490)
        tones = set()
        for _ in range(60):
            names = "wxyz"[:rng.randint(2, 4)]
            tales = [some_tale(rng, names)]
            for _ in range(rng.randint(0, 3)):
                tales.append(near_tale(rng, rng.choice(tales), names))
            bells = tuple(sorted(rng.sample(names, rng.randint(0, 4 if len(names) == 4 else 2))))
            left = {naming: known_unheard(tales, bells, naming) for naming in known_namings(len(bells))}
            telling = [naming for naming in left if not left[naming]]
            deaf = [naming for naming in left if left[naming]]
            wanted = [one for one in telling if not any(two != one and known_coarser(two, one) for two in telling)]
            self.assert_same(coarsest_namings(tales, bells), tuple(wanted))
            finest = [one for one in deaf if not any(two != one and known_coarser(one, two) for two in deaf)]
            self.assert_same(finest_deaf(tuple(tales), bells), tuple(finest))
            fewest = min(len(set(naming) - {0}) for naming in telling)
            self.assert_same(fewest_tones(tales, bells), fewest)
            tones.add(fewest)
            for _ in range(4):
                naming = tuple(rng.choice([0, 1, 2, 7]) for _ in bells)
                unheard = known_unheard(tales, bells, naming)
                self.assert_same(unheard_pairs(tales, bells, naming), unheard)
                # It leaves none exactly if a coarsest one is coarser, exactly if it is coarser than no finest deaf one.
                self.assertEqual(not unheard, any(known_coarser(one, naming) for one in wanted))
                self.assertEqual(not unheard, not any(known_coarser(naming, one) for one in finest))
                for tale in tales:
                    self.assert_same(heard_tones(tale, bells, naming), known_heard(tale, bells, naming))
        self.assertGreaterEqual(tones, {0, 1, 2})

    def test_needed_by_the_words(self):
        rng = source(491)
        told = {0: 0, 1: 0, 2: 0}
        for _ in range(200):
            names = "uvwxyz"[:rng.randint(2, 6)]
            one = some_tale(rng, names, 6)
            other = near_tale(rng, one, names)
            many, lot = tones_needed(one, other)
            told[many] += 1
            counts = [lot for lot in all_lots(names_in(one, other)) if len(thin_tale(one, lot)) != len(thin_tale(other, lot))]
            wanted = (0, None) if one == other else (1, counts[0]) if counts else (2, parting_lots(one, other)[0])
            self.assert_same((many, lot), wanted)
            matched = lots_matched(one, other)
            self.assertEqual(matched is None, sorted(one) != sorted(other))
            self.assertEqual(many == 1, sorted(one) != sorted(other))
            if matched is not None:
                self.assertEqual(sorted(matched), list(range(len(other))))
                self.assertTrue(all(other[number] == lot for lot, number in zip(one, matched)))
                for name in set(one):
                    numbers = [number for lot, number in zip(one, matched) if lot == name]
                    self.assertEqual(numbers, sorted(numbers))
        self.assertGreater(min(told.values()), 20)

    def test_greatest(self):
        rng = source(492)
        tales = [tuple(tuple(sorted(rng.sample("uvwxyz", rng.randint(1, 6)))) for _ in range(12)) for _ in range(4)]
        bells = ("u", "w", "x", "z")
        for call in (coarsest_namings, finest_deaf, fewest_tones):
            self.assert_soon(2, call, tales, bells)
        self.assert_soon(2, tones_needed, tales[0], tales[0][::-1])

    def test_arguments_stay(self):
        tales = [ONE, OTHER]
        before = picture(tales)
        coarsest_namings(tales, ("x", "y"))
        unheard_pairs(tales, ("x", "y"), (1, 1))
        self.assertEqual(picture(tales), before)


if __name__ == "__main__":
    unittest.main()
