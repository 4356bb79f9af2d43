"""Weaves: how many come, in their order, and which standings of the rooms some pass, or all."""

from curvebells.errors import InvalidRooms, InvalidSize
from curvebells.looms import Loom, led_on, standing_at, standing_of
from curvebells.rooms import is_ahead, leads_of, shortest_road
from curvebells.stamps import is_road, need_weaves
from curvebells.values import is_name, is_number, is_sequence


class Weaver:
    """The weaves of rooms, counted by how they go on, and those that pass none of some standings."""

    def __init__(self, rooms, barred):
        self.loom = Loom(rooms)
        self.barred = {standing: True for standing in barred}
        self.counts = {}
        self.steps = {}

    def levels_from(self, done):
        """For each level that may follow, ascending: (level, whether it meets a barred standing, what is done then)."""
        if done not in self.steps:
            steps = []
            for level in self.loom.levels(done):
                behind = led_on(done, level)
                is_met = standing_at(done, level) in self.barred or standing_of(behind) in self.barred
                steps.append((level, is_met, behind))
            self.steps[done] = steps
        return self.steps[done]

    def many_from(self, done, is_free):
        """How many weaves go on from here; those alone that meet nothing barred behind, if it is not free to."""
        if done == self.loom.many:
            return 1
        if (done, is_free) not in self.counts:
            steps = [step for step in self.levels_from(done) if is_free or not step[1]]
            self.counts[(done, is_free)] = sum([self.many_from(step[2], is_free) for step in steps])
        return self.counts[(done, is_free)]

    def avoiding(self):
        """How many weaves pass nothing that is barred."""
        first = self.loom.none_done()
        return 0 if standing_of(first) in self.barred else self.many_from(first, False)

    def met_from(self, done, has_met):
        """How many weaves go on from here that meet something barred, or have met it."""
        return self.many_from(done, True) - (0 if has_met else self.many_from(done, False))

    def weave_by(self, is_wanted):
        """The weave by the first levels that a function of what is done, and of whether something was met, takes."""
        done = self.loom.none_done()
        has_met = standing_of(done) in self.barred
        weave = []
        while done != self.loom.many:
            for level, is_met, behind in self.levels_from(done):
                if is_wanted(behind, has_met or is_met):
                    break
            weave.append(self.loom.steps_at(done, level))
            done, has_met = behind, has_met or is_met
        return tuple(weave)

    def passed(self):
        """All standings that some weave passes without one that is barred ahead, each with those next to it."""
        first = standing_of(self.loom.none_done())
        found = {}
        open_ones = [first]
        while open_ones:
            standing = open_ones.pop()
            if standing not in found and standing not in self.barred:
                found[standing] = self.next_standings(standing)
                open_ones = open_ones + found[standing]
        return found

    def next_standings(self, standing):
        """The standings that weaves pass next."""
        done = tuple([cell // 2 for cell in standing])
        level = [room for room, cell in enumerate(standing) if cell & 1 == 1]
        if level:
            return [standing_of(led_on(done, level))]
        return [standing_at(done, step[0]) for step in self.levels_from(done)]


def how_many(rooms):
    """How many weaves come."""
    need_weaves(rooms)
    weaver = Weaver(rooms, ())
    return weaver.avoiding()


def nth_weave(rooms, number):
    """The weave of a number, from 0 on, ascending; any value as the number."""
    need_weaves(rooms)
    weaver = Weaver(rooms, ())
    if not is_number(number) or number >= weaver.avoiding():
        raise InvalidSize("number")
    done = weaver.loom.none_done()
    weave = []
    while done != weaver.loom.many:
        for level, _, behind in weaver.levels_from(done):
            if number < weaver.many_from(behind, True):
                break
            number -= weaver.many_from(behind, True)
        weave.append(weaver.loom.steps_at(done, level))
        done = behind
    return tuple(weave)


def number_of(rooms, weave):
    """The number of a weave."""
    need_weaves(rooms)
    weaver = Weaver(rooms, ())
    done = weaver.loom.none_done()
    number = 0
    for told in weave:
        for level, _, behind in weaver.levels_from(done):
            if weaver.loom.steps_at(done, level) == told:
                break
            number += weaver.many_from(behind, True)
        done = behind
    return number


def weave_passes(rooms, weave):
    """All standings that a weave passes."""
    need_weaves(rooms)
    return passed_by(rooms, weave)


def passed_by(rooms, weave):
    """All standings that a weave passes."""
    loom = Loom(rooms)
    done = loom.none_done()
    standings = [standing_of(done)]
    for told in weave:
        level = [loom.placed(step)[0] for step in told]
        behind = led_on(done, level)
        standings = standings + [standing_at(done, level), standing_of(behind)]
        done = behind
    return tuple(standings)


def need_told(rooms, value):
    """Raises InvalidRooms if no weave comes, or for any value that tells no cells of unlike rooms, at least one."""
    need_weaves(rooms)
    if not is_sequence(value) or len(value) == 0 or not all([is_told_cell(rooms, pair) for pair in value]):
        raise InvalidRooms(4)
    if len(set([pair[0] for pair in value])) < len(value):
        raise InvalidRooms(4)


def is_told_cell(rooms, value):
    """Whether any value is a tuple of the name of a room and one of its cells."""
    if not isinstance(value, tuple) or len(value) != 2 or not is_number(value[1]):
        return False
    return any([value[0] == name and value[1] <= 2 * len(tale) for name, tale in rooms.rooms])


def told_standings(rooms, told):
    """All standings with some told cells."""
    cells = dict(told)
    standings = [()]
    for name, tale in rooms.rooms:
        own = [cells[name]] if name in cells else list(range(2 * len(tale) + 1))
        standings = [(*ahead, cell) for ahead in standings for cell in own]
    return standings


def meeting_weave(rooms, told):
    """Some weave that passes a standing with some told cells, or None; any value."""
    need_told(rooms, told)
    return met_weave(rooms, told_standings(rooms, told))


def met_weave(rooms, standings):
    """Some weave that passes one of some standings, or None."""
    weaver = Weaver(rooms, standings)
    if weaver.avoiding() == weaver.many_from(weaver.loom.none_done(), True):
        return None
    return weaver.weave_by(lambda done, has_met: weaver.met_from(done, has_met) > 0)


def end_step(rooms, name, cell):
    """The step with which a cell ends, the step itself of an odd one, None for none."""
    number = cell // 2 + 1
    return (name, number) if number <= rooms.many_lots(name) else None


def begin_step(name, cell):
    """The step with which a cell begins, the step itself of an odd one, None for none."""
    number = (cell + 1) // 2
    return (name, number) if number > 0 else None


def meeting_barred(rooms, told):
    """Some triple (name, other name, road) that shows that no weave passes such a standing, or None; any value."""
    need_told(rooms, told)
    leads = leads_of(rooms)
    for name, cell in told:
        for other, beside in told:
            end, begin = end_step(rooms, name, cell), begin_step(other, beside)
            road = None
            if name != other and end is not None and begin is not None:
                road = shortest_road(leads, end, begin)
            if road is not None and is_parting(rooms, cell, beside, road):
                return (name, other, road)
    return None


def is_parting(rooms, cell, beside, road):
    """Whether a road keeps two cells apart: of two odd ones, if a step of it leads ahead."""
    if cell & 1 == 0 or beside & 1 == 0:
        return True
    return any([is_ahead(rooms, one, other) for one, other in zip(road, road[1:])])


def is_barred(rooms, told, value):
    """Whether any value is such a triple; any value as what is told."""
    need_told(rooms, told)
    if not isinstance(value, tuple) or len(value) != 3 or not is_name(value[0]) or not is_name(value[1]):
        return False
    name, other, road = value
    cells = dict(told)
    if name not in cells or other not in cells:
        return False
    end, begin = end_step(rooms, name, cells[name]), begin_step(other, cells[other])
    if name == other or end is None or begin is None or not is_road(rooms, end, begin, road):
        return False
    return is_parting(rooms, cells[name], cells[other], road)


def need_wish(rooms, value):
    """Raises InvalidRooms if no weave comes, or for any value that is no sequence of standings."""
    need_weaves(rooms)
    if not is_sequence(value) or not all([is_standing(rooms, standing) for standing in value]):
        raise InvalidRooms(4)


def is_standing(rooms, value):
    """Whether any value is a standing of rooms."""
    if not isinstance(value, tuple) or len(value) != len(rooms.rooms):
        return False
    return all([is_number(cell) and cell <= 2 * len(room[1]) for cell, room in zip(value, rooms.rooms)])


def passing_weave(rooms, wish):
    """Some weave that passes a standing of a wish, or None; any value."""
    need_wish(rooms, wish)
    return met_weave(rooms, wish)


def avoiding_weave(rooms, wish):
    """Some weave that passes no standing of a wish, or None; any value."""
    need_wish(rooms, wish)
    weaver = Weaver(rooms, wish)
    if weaver.avoiding() == 0:
        return None
    return weaver.weave_by(lambda done, has_met: not has_met and weaver.many_from(done, False) > 0)


def always_passes(rooms, wish):
    """Whether all weaves pass a standing of a wish; any value."""
    need_wish(rooms, wish)
    return Weaver(rooms, wish).avoiding() == 0


def weaves_through(rooms, wish):
    """How many weaves pass a standing of a wish; any value."""
    need_wish(rooms, wish)
    return how_many(rooms) - Weaver(rooms, wish).avoiding()


def wish_fence(rooms, wish):
    """The fence of fewest standings, or None; any value."""
    need_wish(rooms, wish)
    weaver = Weaver(rooms, wish)
    fence = weaver.passed()
    return None if standing_of(weaver.loom.many) in fence else tuple(sorted(fence))


def is_fence(rooms, wish, value):
    """Whether any value is a tuple of the standings of a fence; any value as the wish."""
    need_wish(rooms, wish)
    if not isinstance(value, tuple) or not all([is_standing(rooms, standing) for standing in value]):
        return False
    weaver = Weaver(rooms, ())
    if len(set(value)) < len(value) or standing_of(weaver.loom.many) in value:
        return False
    within = {standing: True for standing in (*value, *wish)}
    if standing_of(weaver.loom.none_done()) not in within or not all([standing not in wish for standing in value]):
        return False
    # What no weave passes has nothing next to it.
    passed = weaver.passed()
    return all([led in within for standing in value for led in passed.get(standing, [])])
