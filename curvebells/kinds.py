"""Kinds of stretches: what a free stair makes of signs of curves, and what can follow over a moment."""

from curvebells.errors import InvalidSaying
from curvebells.stairs import words_of
from curvebells.values import as_lot, is_name

MOST_NAMES = 2
MOST_TIMED = 3


def need_free(stair):
    """Raises InvalidSaying for the first row that is in no free stair: no such row, a third name, a fourth in time."""
    names = []
    timed = 0
    for at, row in enumerate(stair.rows):
        if not is_free(row):
            raise InvalidSaying(at)
        names = as_lot(list(names) + names_in(row))
        timed += int(is_timed(row))
        if len(names) > MOST_NAMES or timed > MOST_TIMED:
            raise InvalidSaying(at)


def is_free(row):
    """Whether a row may stand in a free stair."""
    if row[0] == "above":
        return 0 in row
    return row[0] in ("not", "and", "or", "until", "since")


def is_timed(row):
    """Whether a row is one of until or since."""
    return row[0] in ("until", "since")


def names_in(row):
    """The names of things in a row."""
    return [one for one in words_of(row, "side") if is_name(one)]


class Kinds:
    """The kinds (signs, bits, whether the last row has failed) of a free stair."""

    def __init__(self, stair):
        need_free(stair)
        self.rows = stair.rows
        self.names = as_lot([name for row in stair.rows for name in names_in(row)])
        self.timed = [row for row in stair.rows if is_timed(row)]

    def first_ones(self):
        """All kinds of the first stretch: until is free, since goes back to this stretch alone."""
        firsts = []
        for signs in all_rows((-1, 0, 1), len(self.names)):
            for guess in all_rows((False, True), len(self.timed)):
                bits = [bit if row[0] == "until" else None for row, bit in zip(self.timed, guess)]
                truths, told = self.told_rows(signs, bits)
                firsts.append((signs, told, not truths[-1]))
        return firsts

    def told_rows(self, signs, bits):
        """(truths of all rows, bits) by signs and bits; None for a bit stands for both rows that its row names."""
        truths = []
        told = []
        for row in self.rows:
            if is_timed(row):
                bit = bits[len(told)]
                told.append(truths[row[1]] and truths[row[2]] if bit is None else bit)
                truths.append(told[-1])
            elif row[0] == "above":
                truths.append(self.is_above(row, signs))
            else:
                truths.append(is_joined(row, truths))
        return (truths, tuple(told))

    def is_above(self, row, signs):
        """The truth of an atom by signs."""
        if row[2] == 0:
            return signs[self.names.index(row[1])] > 0
        return signs[self.names.index(row[2])] < 0

    def by_bits(self, signs, bits):
        """The truths of all rows by signs and bits."""
        return self.told_rows(signs, bits)[0]

    def following(self, kind):
        """All (signs at the moment, kind behind it) that can follow a kind."""
        ahead = self.by_bits(kind[0], kind[1])
        found = []
        for there, behind in crossings(kind[0]):
            for guess in all_rows((False, True), len(self.timed)):
                led = self.led_over(kind, ahead, there, behind, guess)
                if led is not None:
                    found.append((there, led))
        return found

    def led_over(self, kind, ahead, there, behind, guess):
        """The kind behind a moment with these signs, by a guess of the bits behind; None if the guess does not fit."""
        # At the moment until is as behind it, and since as ahead of it.
        bits = [told if row[0] == "until" else bit for row, told, bit in zip(self.timed, guess, kind[1])]
        at_moment = self.by_bits(there, bits)
        is_met = kind[2] or not at_moment[-1]
        for row, bit, told in zip(self.timed, kind[1], guess):
            if row[0] == "until" and bit != is_reached(row, ahead, at_moment, told):
                return None
        truths = self.by_bits(behind, guess)
        for row, bit, told in zip(self.timed, kind[1], guess):
            if row[0] == "since" and told != is_reached(row, truths, at_moment, bit):
                return None
        return (behind, guess, is_met or not truths[-1])

    def is_lost(self, kind):
        """Whether the last row has failed at a kind that could be that of the last stretch."""
        if not kind[2]:
            return False
        truths = self.by_bits(kind[0], kind[1])
        untils = [(row, bit) for row, bit in zip(self.timed, kind[1]) if row[0] == "until"]
        return all([bit == (truths[row[1]] and truths[row[2]]) for row, bit in untils])


def is_joined(row, truths):
    """The truth of a row with not, and, or."""
    if row[0] == "not":
        return not truths[row[1]]
    if row[0] == "and":
        return truths[row[1]] and truths[row[2]]
    return truths[row[1]] or truths[row[2]]


def is_reached(row, truths, at_moment, bit):
    """The truth of until or since in a stretch, by the truths in it and at the moment beside it, and its own there."""
    one, other = row[1:]
    return truths[one] and (truths[other] or at_moment[other] or (at_moment[one] and bit))


def all_rows(values, many):
    """All tuples of so many of some values."""
    rows = [()]
    for _ in range(many):
        rows = [(*row, value) for row in rows for value in values]
    return rows


def crossings(signs):
    """All (signs at a moment, signs behind it) that can follow some signs: one at least comes to be 0 there."""
    found = [((), ())]
    for sign in signs:
        steps = [(0, 0)] if sign == 0 else [(sign, sign), (0, sign), (0, -sign)]
        found = [((*there, one), (*behind, two)) for there, behind in found for one, two in steps]
    return [pair for pair in found if is_crossing(signs, pair[0])]


def is_crossing(signs, there):
    """Whether some sign other than 0 is 0 at a moment."""
    return any([sign != 0 and one == 0 for sign, one in zip(signs, there)])
