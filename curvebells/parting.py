"""Kinds of times: which cells of a band timeless stairs of some atoms can tell apart, and by which stair."""

from curvebells.errors import InvalidPlace
from curvebells.places import is_moment, zero_among, zero_of
from curvebells.sayings import need_names
from curvebells.stairs import Stair, tidy_stair
from curvebells.truths import ATOMS, truth_line


def atoms_of(stair):
    """The unlike atoms of a stair, in its order."""
    return list({row: True for row in stair.rows if row[0] in ATOMS})


def kinds_of_times(band, stair):
    """The fewest moments that keep the atoms in each cell, and rounds of numbers of the cells."""
    need_names(band, stair)
    line = truth_line(band, atoms_of(stair))
    return (line.told_places(), tuple(rounds_of(line.truths)))


def rounds_of(truths):
    """All rounds by the rows of the atoms' truths."""
    rounds = [numbered(list(zip(*truths)))]
    while True:
        numbers = rounds[-1]
        behind = numbered([(numbers[cell], going_on(numbers, cell), going_back(numbers, cell))
                           for cell in range(len(numbers))])
        if behind == numbers:
            return rounds
        rounds.append(behind)


def numbered(kinds):
    """The numbers of some kinds, alike ones bear one, in the order in which they first come."""
    numbers = {}
    return tuple([numbers.setdefault(kind, len(numbers)) for kind in kinds])


def going_on(numbers, cell):
    """Each number as it first comes behind a cell, and whether that is at a moment; a stretch meets itself first."""
    return first_met(numbers, list(range(cell + (cell & 1), len(numbers))))


def going_back(numbers, cell):
    """Each number as it first comes going back from a cell, and whether that is at a moment."""
    return first_met(numbers, list(range(cell - (cell & 1), -1, -1)))


def first_met(numbers, cells):
    """The pairs (number, whether at a moment) in the order in which some cells first have the number."""
    met = {}
    for cell in cells:
        if numbers[cell] not in met:
            met[numbers[cell]] = cell & 1 == 1
    return tuple(list(met.items()))


def parting_stair(band, stair, one, other):
    """Some timeless stair of the least depth that holds at one moment and not at the other one, or None."""
    need_names(band, stair)
    for at, place in enumerate((one, other)):
        if not is_moment(place):
            raise InvalidPlace(at)
    atoms = atoms_of(stair)
    line = truth_line(band, atoms)
    parter = Parter(atoms, line.truths)
    cells = []
    for place in (one, other):
        ahead, is_there = zero_among(zero_of(place), line.zeros)
        cells.append(2 * ahead + int(is_there))
    if parter.depth_of(cells[0], cells[1]) is None:
        return None
    last = parter.parted(cells[0], cells[1])
    return tidy_stair(Stair(parter.rows[:last + 1]))


class Parter:
    """Rows of a stair that grow as cells are told apart."""

    def __init__(self, atoms, truths):
        self.rows = list(atoms)
        self.truths = truths
        self.rounds = rounds_of(truths)
        self.known = {row: at for at, row in enumerate(atoms)}

    def put(self, *words):
        """The number of a row, which is new or there already."""
        if words not in self.known:
            self.known[words] = len(self.rows)
            self.rows.append(words)
        return self.known[words]

    def joined(self, word, numbers):
        """The number of the row that joins some rows, at least one, by and or by or."""
        last = numbers[0]
        for number in numbers[1:]:
            if number != last:
                last = self.put(word, last, number)
        return last

    def depth_of(self, one, other):
        """The number of the first round in which two cells are not alike, or None."""
        for depth, numbers in enumerate(self.rounds):
            if numbers[one] != numbers[other]:
                return depth
        return None

    def parted(self, one, other):
        """The number of a row of the least depth that holds in one cell, not in the other one."""
        depth = self.depth_of(one, other)
        if depth == 0:
            return self.parting_atom(one, other)
        numbers = self.rounds[depth - 1]
        for word, going in (("until", going_on), ("since", going_back)):
            ways = (going(numbers, one), going(numbers, other))
            if ways[0] != ways[1]:
                break
        at = len(shared_beginning(ways[0], ways[1]))
        if comes_first(ways[0], ways[1], at):
            return self.coming_row(word, numbers, ways[0], ways[1], at)
        return self.put("not", self.coming_row(word, numbers, ways[1], ways[0], at))

    def parting_atom(self, one, other):
        """The number of an atom, or of a not, that holds in one cell, not in the other one."""
        for number, row in enumerate(self.truths):
            if row[one] != row[other]:
                return number if row[one] else self.put("not", number)

    def coming_row(self, word, numbers, way, other, at):
        """The number of the until or since by which what one way meets there comes, and on the other way does not."""
        shared = [number for number, _ in way[:at]]
        wanted, is_moment_met = way[at]
        between = shared if is_moment_met else shared + [wanted]
        barred = [other[at][0]] if at < len(other) else []
        there = self.class_row(numbers, [wanted], [number for number in shared + barred if number != wanted])
        return self.put(word, self.class_row(numbers, between, barred), there)

    def class_row(self, numbers, wanted, barred):
        """The number of a row that holds in all cells with some numbers, in none with some others."""
        if not barred:
            # What holds everywhere will do.
            return self.put("or", 0, self.put("not", 0))
        parts = []
        for number in wanted:
            told = [self.parted(numbers.index(number), numbers.index(one)) for one in barred]
            parts.append(self.joined("and", told))
        return self.joined("or", parts)


def shared_beginning(one, other):
    """What two rows both begin with."""
    many = 0
    while many < min(len(one), len(other)) and one[many] == other[many]:
        many += 1
    return one[:many]


def comes_first(one, other, at):
    """Whether what one way meets there, where both are not alike, tells it from the other one."""
    if at == len(one):
        return False
    # What comes in a stretch would hold up nothing that comes at a moment.
    return at == len(other) or one[at][0] != other[at][0] or one[at][1]
