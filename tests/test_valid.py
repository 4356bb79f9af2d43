"""Promises [40] and [41]: free stairs, those that hold in all halls, and papers of it."""

import itertools
import unittest

from curvebells.errors import InvalidSaying
from curvebells.halls import Hall
from curvebells.places import is_moment
from curvebells.sayings import Band, holds_at, truth_of
from curvebells.stairs import Stair
from curvebells.told import told_curves
from curvebells.valid import follows_from, in_all_halls, valid_holds
from tests.helpers import ANY_VALUES, BellCase, picture, source

ALL = ((None, False, None, False),)
EXAMPLE = Stair.read("above a 0\nuntil 0 0\nnot 0\nor 1 2")
LATER = Stair.read("above a 0\nuntil 0 0\nor 0 1")


def some_free(rng, most=7):
    rows = []
    timed = 0
    for at in range(rng.randint(1, most)):
        words = ["above"] if at == 0 else ["above", "not", "and", "or", "until", "since", "until", "since"]
        word = rng.choice([one for one in words if timed < 3 or one not in ("until", "since")])
        timed += word in ("until", "since")
        if word == "above":
            name = rng.choice("ab")
            rows.append(("above", name, 0) if rng.random() < 0.6 else ("above", 0, name))
        else:
            rows.append((word,) + tuple(rng.randrange(at) for _ in range(1 if word == "not" else 2)))
    if rng.random() < 0.6:
        # If the one row, then the other one.
        rows += [("not", rng.randrange(len(rows))), ("or", rng.randrange(len(rows)), len(rows))]
    return Stair(rows)


def names_of(stair):
    return sorted({one for row in stair.rows for one in row[1:] if isinstance(one, str)})


def some_told_hall(rng, names):
    """Things whose signs, by cells, are told at random."""
    while True:
        many = rng.randint(0, 4)
        rows = []
        for _ in names:
            sign = rng.choice([-1, 1, 1, 0])
            row = [sign]
            for _ in range(many):
                step = rng.choice(["turn", "touch", "stay"]) if sign else "stay"
                there = sign if step == "stay" else 0
                sign = -sign if step == "turn" else sign
                row += [there, sign]
            rows.append(tuple(row))
        if all(any(row[cell] == 0 and any(row) for row in rows) for cell in range(1, 2 * many + 1, 2)):
            return Hall([(name, (("w", curve),)) for name, curve in zip(names, told_curves(rows))], ())


def known_truths(stair, signs, bits):
    """The truths of all rows by signs and bits."""
    names, left, truths = names_of(stair), list(bits), []
    for row in stair.rows:
        if row[0] == "above":
            worths = [signs[names.index(side)] if isinstance(side, str) else 0 for side in row[1:]]
            truths.append(worths[0] > worths[1])
        elif row[0] in ("until", "since"):
            truths.append(left.pop(0))
        else:
            told = [truths[at] for at in row[1:]]
            truths.append({"not": not told[0], "and": all(told), "or": any(told)}[row[0]])
    return truths


def all_kinds(stair):
    timed = [row for row in stair.rows if row[0] in ("until", "since")]
    return list(itertools.product(itertools.product((-1, 0, 1), repeat=len(names_of(stair))),
                                  itertools.product((False, True), repeat=len(timed)), (False, True)))


def is_timed_right(stair, word, kind, there, bits_there):
    """Whether the bits of this word in a stretch fit the moment beside it."""
    truths, beside = known_truths(stair, *kind[:2]), known_truths(stair, there, bits_there)
    timed = [row for row in stair.rows if row[0] in ("until", "since")]
    for row, bit, bit_there in zip(timed, kind[1], bits_there):
        i, j = row[1:]
        if row[0] == word and bit != (truths[i] and (truths[j] or beside[j] or (beside[i] and bit_there))):
            return False
    return True


def known_follows(stair, kind, behind):
    """Whether a kind can follow another one over some moment, by the words of [41]."""
    timed = [row for row in stair.rows if row[0] in ("until", "since")]
    for there in itertools.product((-1, 0, 1), repeat=len(kind[0])):
        steps = list(zip(kind[0], there, behind[0]))
        if not all((at, on) in ([(0, 0)] if sign == 0 else [(0, -sign), (0, sign), (sign, sign)]) for sign, at, on in steps):
            continue
        if not any(sign != 0 and at == 0 for sign, at, _ in steps):
            continue
        bits = [on if row[0] == "until" else ahead for row, ahead, on in zip(timed, kind[1], behind[1])]
        if is_timed_right(stair, "until", kind, there, bits) and is_timed_right(stair, "since", behind, there, bits):
            fails = not known_truths(stair, there, bits)[-1] or not known_truths(stair, *behind[:2])[-1]
            if behind[2] == (kind[2] or fails):
                return True
    return False


def is_ending(stair, word, kind):
    """Whether the bits of this word are those of a stretch without a neighbour: i and j."""
    truths = known_truths(stair, *kind[:2])
    timed = [row for row in stair.rows if row[0] in ("until", "since")]
    return all(bit == (truths[row[1]] and truths[row[2]]) for row, bit in zip(timed, kind[1]) if row[0] == word)


def known_behind(stair):
    """For each kind those that can follow it."""
    kinds = all_kinds(stair)
    return {kind: [behind for behind in kinds if known_follows(stair, kind, behind)] for kind in kinds}


def known_closure(behind, kinds):
    """Some kinds, and all that follows."""
    met, todo = {}, list(kinds)
    while todo:
        kind = todo.pop()
        if kind not in met:
            met[kind] = True
            todo += behind[kind]
    return tuple(met)


def known_paper(stair, behind, value):
    """Whether a tuple of kinds is a paper, by the words of [41]."""
    firsts = [kind for kind in behind
              if is_ending(stair, "since", kind) and kind[2] != known_truths(stair, *kind[:2])[-1]]
    if not set(firsts) <= set(value) or any(kind[2] and is_ending(stair, "until", kind) for kind in value):
        return False
    return all(led in value for kind in value for led in behind[kind])


# What holds of all times, all halls, whatever i and j are; some of it is well known.
def rows_with(*rows):
    return Stair([("above", "a", 0), ("above", "b", 0)] + list(rows))


VALID = (
    rows_with(("not", 0), ("or", 0, 2)),
    # What is until is until soon, and once more: from a stretch behind on.
    rows_with(("until", 0, 1), ("until", 0, 2), ("not", 2), ("or", 4, 3)),
    # Both together.
    rows_with(("and", 0, 1), ("until", 2, 2), ("until", 0, 1), ("not", 3), ("or", 5, 4)),
    # It was a until now, or some time not.
    Stair([("above", "a", 0), ("not", 0), ("or", 0, 1), ("since", 2, 1), ("since", 0, 0), ("or", 3, 4)]),
    # What was so has always someone behind it.
    Stair([("above", 0, "a"), ("above", "a", 0), ("and", 0, 1), ("not", 2)]),
    Stair([("above", "a", 0), ("not", 0), ("or", 0, 1), ("until", 2, 2)]),
    Stair([("above", "a", 0), ("not", 0), ("or", 0, 1), ("since", 2, 2)]),
)
NOT_VALID = (
    Stair([("above", "a", 0)]),
    Stair([("above", 0, "b")]),
    LATER,
    rows_with(("until", 0, 1), ("not", 2)),
    rows_with(("since", 0, 1), ("since", 1, 0), ("or", 2, 3)),
    # It is not so, or was not so: of what is below 0, above 0, nought at all times.
    Stair([("above", 0, "a"), ("not", 0), ("or", 0, 1), ("since", 2, 1), ("or", 1, 3)]),
    Stair([("above", "a", 0), ("not", 0), ("or", 0, 1), ("since", 2, 1), ("or", 1, 3)]),
    Stair([("above", 0, "a"), ("above", "a", 0), ("or", 0, 1), ("not", 2), ("or", 2, 3), ("since", 4, 2), ("or", 2, 5)]),
    # That it is nought now and then only: the curve () is nought throughout.
    Stair([("above", "a", 0), ("above", 0, "a"), ("or", 0, 1), ("not", 2), ("or", 2, 3), ("until", 4, 2)]),
)


class TestHalls(BellCase):

    def test_example(self):
        self.assertIs(in_all_halls(EXAMPLE)[0], True)

    def test_by_hand(self):
        for stair in VALID:
            told = self.assert_kept(in_all_halls, stair)
            self.assertEqual(len(told), 2)
            self.assert_same(told[0], True)
            self.assert_same(valid_holds(stair=stair, value=told[1]), True)
        for stair in NOT_VALID:
            self.check_failing(stair, self.assert_kept(in_all_halls, stair))

    def check_failing(self, stair, told):
        is_valid, hall, moment = told
        self.assert_same(is_valid, False)
        self.assertIsInstance(hall, Hall)
        self.assertEqual([name for name, _ in hall.things], names_of(stair))
        self.assert_same(hall.bells, ())
        self.assertTrue(is_moment(moment))
        self.assert_same(holds_at(Band(hall), stair, moment), False)

    def test_by_many_halls(self):
        rng = source(430)
        told = {True: 0, False: 0}
        for _ in range(250):
            stair = some_free(rng)
            answer = in_all_halls(stair)
            told[answer[0]] += 1
            if answer[0]:
                self.assert_same(valid_holds(stair, answer[1]), True)
                for _ in range(4):
                    band = Band(some_told_hall(rng, names_of(stair)))
                    self.assert_same(truth_of(band, stair), ALL)
            else:
                self.check_failing(stair, answer)
        self.assertGreater(min(told.values()), 10)

    def test_follows(self):
        one, other = Stair.read("above a 0\nuntil 0 0"), Stair.read("above a 0\nnot 0\nor 0 1\nuntil 2 0")
        told = follows_from(one=one, other=other)
        self.assert_same(told[0], True)
        joined = Stair.read("above a 0\nuntil 0 0\nabove a 0\nnot 2\nor 2 3\nuntil 4 2\nnot 1\nor 6 5")
        self.assert_same(valid_holds(joined, told[1]), True)
        self.assert_same(in_all_halls(joined)[0], True)
        told = follows_from(other, one)
        self.check_failing(Stair.read("above a 0\nnot 0\nor 0 1\nuntil 2 0\nabove a 0\nuntil 4 4\nnot 3\nor 6 5"), told)

    def test_follows_by_many(self):
        rng = source(431)
        for _ in range(60):
            one, other = some_free(rng, 4), some_free(rng, 4)
            timed = [row for row in one.rows + other.rows if row[0] in ("until", "since")]
            if len(timed) > 3:
                continue
            many = len(one.rows)
            rows = list(one.rows)
            for row in other.rows:
                rows.append(row if row[0] == "above" else (row[0],) + tuple(at + many for at in row[1:]))
            rows += [("not", many - 1), ("or", len(rows), len(rows) - 1)]
            told, wanted = follows_from(one, other), in_all_halls(Stair(rows))
            self.assert_same(told[0], wanted[0])
            if told[0]:
                self.assert_same(valid_holds(Stair(rows), told[1]), True)
            else:
                self.check_failing(Stair(rows), told)

    def test_wrong(self):
        for rows, at in (([("rises", "a")], 0), ([("falls", "a")], 0), ([("rings", "a")], 0), ([("above", "a", "b")], 0),
                         ([("above", "a", 1)], 0), ([("above", -1, "a")], 0),
                         ([("above", "a", 0), ("soon", 0, 1)], 1), ([("above", "a", 0), ("lately", 0, 1)], 1),
                         ([("above", "a", 0), ("above", 0, "b"), ("not", 0), ("above", "c", 0), ("rises", "a")], 3),
                         ([("above", "a", 0), ("until", 0, 0), ("since", 0, 0), ("until", 0, 1), ("not", 3), ("since", 0, 0),
                           ("above", "a", 1)], 5),
                         ([("above", "a", 0), ("until", 0, 0)] + [("until", 0, 0)] * 3, 4),
                         ([("above", "a", 0)] + [("since", 0, 0)] * 4, 4)):
            self.assert_error(InvalidSaying, {"at": at}, in_all_halls, Stair(rows))
            self.assert_error(InvalidSaying, {"at": at}, valid_holds, Stair(rows), None)
            plain = Stair([("above", "a", 0)])
            self.assert_error(InvalidSaying, {"at": at}, follows_from, Stair(rows), plain)
            self.assert_error(InvalidSaying, {"at": at + 1}, follows_from, plain, Stair(rows))
        one = Stair([("above", "a", 0), ("until", 0, 0), ("since", 0, 0)])
        self.assert_error(InvalidSaying, {"at": 5}, follows_from, one, one)
        self.assert_error(InvalidSaying, {"at": 3}, follows_from, rows_with(("not", 0)), Stair([("above", "c", 0)]))


class TestPapers(BellCase):

    def test_by_hand(self):
        kinds = in_all_halls(EXAMPLE)[1]
        # Where a is above 0 the bit of until may be wrong, and then the row fails: but this can't be the last stretch.
        self.assert_same(set(kinds), {((sign,), (bit,), sign == 1 and not bit)
                                      for sign in (-1, 0, 1) for bit in (False, True)})
        wanted = {True: 0, False: 0}
        for value in itertools.permutations(kinds, 6):
            self.assert_same(valid_holds(EXAMPLE, value), True)
            break
        for value in (kinds[::-1], kinds + kinds[2:4], kinds + (((0,), (True,), False),)):
            self.assert_same(valid_holds(EXAMPLE, value), True)
            wanted[True] += 1
        for at in range(len(kinds)):
            self.assert_same(valid_holds(EXAMPLE, kinds[:at] + kinds[at + 1:]), False)
        bent = (list(kinds), kinds + (None,), kinds + (((1,), (True,)),), kinds + ([(1,), (True,), False],),
                kinds + (([1], (True,), False),), kinds + (((1,), [True], False),), kinds + (((1,), (1,), False),),
                kinds + (((1,), (True,), 0),), kinds + (((True,), (True,), False),), kinds + (((2,), (True,), False),),
                kinds + (((-2,), (True,), False),), kinds + (((1, 1), (True,), False),), kinds + (((), (True,), False),),
                kinds + (((1,), (), False),), kinds + (((1,), (True, True), False),), kinds + (((1,), (True,), False, 0),),
                # These could be the last ones, and have failed.
                kinds + (((1,), (True,), True),), kinds + (((0,), (False,), True),), kinds + (((-1,), (False,), True),))
        for value in bent:
            self.assert_same(valid_holds(EXAMPLE, value), False)
        for value in ANY_VALUES:
            self.assert_same(valid_holds(EXAMPLE, value), False)
            self.assert_same(valid_holds(EXAMPLE, kinds + (value,)), False)
            self.assert_same(valid_holds(EXAMPLE, kinds + ((value, (True,), False),)), False)
            if value.__class__ is not int or abs(value) > 1:
                self.assert_same(valid_holds(EXAMPLE, kinds + (((value,), (True,), False),)), False)

    def test_more_than_needed(self):
        # From the start a since is i and j; a kind that never comes may stand there, if all behind it does.
        stair = Stair([("above", "a", 0), ("not", 0), ("or", 0, 1), ("since", 0, 0), ("or", 2, 3)])
        kinds = in_all_halls(stair)[1]
        rest = [((sign,), (bit,), False) for sign in (-1, 0, 1) for bit in (False, True)]
        strange = [kind for kind in rest if kind not in kinds]
        self.assertTrue(strange)
        for kind in strange:
            self.assert_same(valid_holds(stair, kinds + (kind,)), True)
        self.assert_same(valid_holds(stair, tuple(rest) * 100), True)

    def test_what_is_behind_must_be_there(self):
        # Above 0 first: it may come to be below, which only the kinds behind show.
        stair = Stair([("above", "a", 0), ("not", 0), ("until", 0, 1), ("until", 0, 0), ("or", 2, 3), ("not", 0), ("or", 4, 5)])
        told = in_all_halls(stair)
        self.assert_same(told[0], True)
        for at in range(len(told[1])):
            value = told[1][:at] + told[1][at + 1:]
            self.assert_same(valid_holds(stair, value), False)

    def check_papers(self, rng, stair):
        """Papers by the words: what comes, less, more, and more with all that follows; how many hold."""
        behind, answer = known_behind(stair), in_all_halls(stair)
        kinds = answer[1] if answer[0] else tuple(all_kinds(stair))
        rest = [kind for kind in all_kinds(stair) if kind not in kinds]
        closed = [known_closure(behind, kinds + (kind,)) for kind in rest]
        values = [kinds] + closed + [kinds + (kind,) for kind in rest]
        for value in [kinds] + closed[:3]:
            values += [value[:at] + value[at + 1:] for at in range(len(value))]
        held = 0
        for value in values:
            value = tuple(rng.sample(value, len(value)))
            holds = known_paper(stair, behind, value)
            self.assert_same(valid_holds(stair, value), holds)
            held += holds
        return held, len(values) - held

    def test_by_the_words(self):
        rng = source(433)
        told = [0, 0]
        for _ in range(90):
            stair = some_free(rng, 5)
            if len(all_kinds(stair)) <= 36:
                held, left = self.check_papers(rng, stair)
                told = [told[0] + held, told[1] + left]
        self.assertGreater(min(told), 100)

    def test_stairs_within_stairs_by_the_words(self):
        # Until within since, and the other way about; of two names, with either of both.
        rng, one = source(434), [("above", "a", 0), ("above", 0, "a")]
        for word, other in (("until", "since"), ("since", "until"), ("until", "until"), ("since", "since")):
            for i, j in ((2, 2), (0, 2), (2, 0), (1, 2), (2, 1)):
                self.check_papers(rng, Stair(one + [(word, 0, 1), (other, i, j), ("not", 3), ("or", 3, 4)]))
                self.check_papers(rng, Stair(one + [(word, 0, 1), (other, i, j)]))
        for word in ("until", "since"):
            for names in (("a", "b"), ("b", "a")):
                two = [("above", names[0], 0), ("above", 0, names[1])]
                self.check_papers(rng, Stair(two + [(word, 0, 1), ("not", 2), ("or", 2, 3)]))
                self.check_papers(rng, Stair(two + [("not", 0), (word, 2, 1), ("and", 0, 3), ("not", 4), ("or", 4, 5)]))

    def test_two_names_by_hand(self):
        kinds = in_all_halls(rows_with(("until", 0, 1), ("not", 2), ("or", 2, 3)))[1]
        stair = rows_with(("until", 0, 1), ("not", 2), ("or", 2, 3))
        self.assert_same(valid_holds(stair, kinds), True)
        self.assert_same(valid_holds(stair, kinds + (((0, 2), (True,), False),)), False)
        self.assert_same(valid_holds(stair, kinds + (((0, None), (True,), False),)), False)

    def test_no_paper_of_what_fails(self):
        rng = source(432)
        signs = [-1, 0, 1]
        for stair in NOT_VALID + tuple(some_free(rng) for _ in range(20)):
            timed = sum(row[0] in ("until", "since") for row in stair.rows)
            everything = tuple(itertools.product(itertools.product(signs, repeat=len(names_of(stair))),
                                                 itertools.product((False, True), repeat=timed), (False, True)))
            unmet = tuple(kind for kind in everything if not kind[2])
            if not in_all_halls(stair)[0]:
                self.assert_same(valid_holds(stair, everything), False)
                self.assert_same(valid_holds(stair, unmet), False)
                self.assert_same(valid_holds(stair, ()), False)

    def test_greatest(self):
        rows = [("above", "a", 0), ("above", "b", 0), ("above", 0, "a"), ("above", 0, "b"), ("until", 0, 1), ("since", 2, 3),
                ("until", 4, 5), ("or", 0, 6), ("not", 7), ("or", 7, 8), ("and", 9, 9), ("or", 9, 4), ("and", 11, 9),
                ("not", 12), ("not", 13), ("or", 14, 9)]
        stair = Stair(rows)
        told = self.assert_soon(4, in_all_halls, stair)
        self.assert_same(told[0], True)
        self.assertGreater(len(told[1]), 30)
        self.assert_same(self.assert_soon(4, valid_holds, stair, (told[1] * 15)[:600]), True)
        failing = Stair(rows + [("and", 15, 4)])
        self.assert_same(self.assert_soon(4, in_all_halls, failing)[0], False)

    def test_arguments_stay(self):
        before = picture(EXAMPLE)
        in_all_halls(EXAMPLE)
        follows_from(EXAMPLE, EXAMPLE)
        valid_holds(EXAMPLE, ())
        self.assertEqual(picture(EXAMPLE), before)


if __name__ == "__main__":
    unittest.main()
