"""Tones: names that sound alike, or are not heard; by which namings tales can be told apart."""

from itertools import combinations

from curvebells.alike import bells_of, need_told, ordered_lots, parting_lots
from curvebells.errors import InvalidSize
from curvebells.rows import thin_tale
from curvebells.silent import is_name_lot, need_tales
from curvebells.values import as_lot, is_number


def need_bells(bells):
    """Raises InvalidSize for any value that is no ascending tuple of unlike names, perhaps empty."""
    if not is_name_lot(bells):
        raise InvalidSize("bells")


def need_naming(bells, naming):
    """Raises InvalidSize for any value that is no naming of bells."""
    if not isinstance(naming, tuple) or len(naming) != len(bells) or not all([is_number(tone) for tone in naming]):
        raise InvalidSize("naming")


def plain_naming(naming):
    """The naming with the same names unheard, and on one tone, whose tones come first in the order 1, 2, .."""
    tones = {}
    plain = []
    for tone in naming:
        plain.append(tones.setdefault(tone, len(tones) + 1) if tone > 0 else 0)
    return tuple(plain)


def is_coarser(naming, other):
    """Whether a naming is coarser than another one, or that one itself."""
    if len(naming) != len(other):
        return False
    led = {}
    for tone, heard in zip(naming, other):
        # What is not heard stays so; what sounds alike does so still, or all of it is not heard.
        if led.setdefault(heard, tone if heard > 0 else 0) != tone:
            return False
    return True


def heard_tones(lots, bells, naming):
    """For each lot of a tale its unlike tones, ascending, empty ones left out; any values."""
    need_tales(lots)
    need_bells(bells)
    need_naming(bells, naming)
    return tones_in(lots, bells, naming)


def tones_in(lots, bells, naming):
    """For each lot of a tale its unlike tones, ascending, empty ones left out."""
    tones = dict(zip(bells, naming))
    heard = [as_lot([tones.get(name, 0) for name in lot if tones.get(name, 0) > 0]) for lot in lots]
    return tuple([lot for lot in heard if lot])


def need_all(tales, bells):
    """Raises the errors of any values that should be tales, and bells."""
    need_told(tales)
    need_bells(bells)


def unheard_pairs(tales, bells, naming):
    """The pairs of numbers, ascending, of tales that the bells part, and a naming does not; any values."""
    need_all(tales, bells)
    need_naming(bells, naming)
    return unheard_among(tales, bells, naming)


def unheard_among(tales, bells, naming):
    """The pairs of numbers, ascending, of tales that the bells part, and a naming does not."""
    heard = [tones_in(tale, bells, naming) for tale in tales]
    told = [thin_tale(tale, bells) for tale in tales]
    numbers = list(range(len(tales)))
    return tuple([(i, j) for i, j in combinations(numbers, 2) if told[i] != told[j] and heard[i] == heard[j]])


def plain_namings(many):
    """All plain namings of so many names, ascending."""
    namings = [()]
    for _ in range(many):
        namings = [(*naming, tone) for naming in namings for tone in range(max(naming, default=0) + 2)]
    return namings


def telling_namings(tales, bells):
    """All plain namings that leave no pair unheard, ascending."""
    return [naming for naming in plain_namings(len(bells)) if not unheard_among(tales, bells, naming)]


def coarsest_namings(tales, bells):
    """All plain namings that leave no pair unheard, and than which no coarser one does so; any values."""
    need_all(tales, bells)
    telling = telling_namings(tales, bells)
    return tuple([naming for naming in telling
                  if not any([other != naming and is_coarser(other, naming) for other in telling])])


def finest_deaf(tales, bells):
    """All plain namings that leave some pair unheard, while no finer one does; any values."""
    need_all(tales, bells)
    deaf = [naming for naming in plain_namings(len(bells)) if unheard_among(tales, bells, naming)]
    return tuple([naming for naming in deaf
                  if not any([other != naming and is_coarser(naming, other) for other in deaf])])


def fewest_tones(tales, bells):
    """The least number of tones of a naming that leaves no pair unheard; any values."""
    need_all(tales, bells)
    return min([max(naming, default=0) for naming in telling_namings(tales, bells)])


def tones_needed(one, other):
    """(how many tones tell two tales apart, a lot of names for it, None for equal tales); any values."""
    need_tales(one, other)
    if one == other:
        return (0, None)
    for lot in ordered_lots(bells_of((one, other))):
        if how_often(one, lot) != how_often(other, lot):
            return (1, lot)
    return (2, parting_lots(one, other)[0])


def how_often(tale, names):
    """How often some of the names are heard, all on one tone."""
    return len(thin_tale(tale, names))


def lots_matched(one, other):
    """For each lot of a tale the number of a like lot of the other, first to first, or None; any values."""
    need_tales(one, other)
    numbers = {}
    for number, lot in enumerate(other):
        numbers.setdefault(lot, []).append(number)
    matched = []
    for lot in one:
        if not numbers.get(lot, []):
            return None
        matched.append(numbers[lot].pop(0))
    return tuple(matched) if len(matched) == len(other) else None
