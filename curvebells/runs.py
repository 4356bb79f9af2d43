"""Runs: what rings, and what turns, if rules act at bells; and papers of runs."""

from curvebells.courses import Course, all_ways, course_faces
from curvebells.errors import InvalidPlace, InvalidSize
from curvebells.halls import followed_curves, thing_number, way_number
from curvebells.places import is_moment, place_among, zero_of, zero_order
from curvebells.rows import rung_cells
from curvebells.sayings import Band
from curvebells.tables import table_holds, table_paper
from curvebells.values import is_count, is_number, is_same, is_sequence


class Run:
    """What comes of a hall with rules behind a moment, or from the beginning on."""

    def __init__(self, ruled, since=None, ways=None, *, deaf=()):
        if since is not None and not is_moment(since):
            raise InvalidPlace(0)
        self.begin = ruled.hall.first if ways is None else ways
        followed_curves(ruled.hall, self.begin)
        if not is_sequence(deaf) or not all([is_deaf_pair(ruled, pair) for pair in deaf]):
            raise InvalidSize("deaf")
        course = Course(ruled.hall)
        ahead = 0 if since is None else moments_to(course, since)
        self.ruled = ruled
        self.since = since
        self.rounds = rounds_by(ruled, course.rings, ahead, self.begin, deaf)
        self.row = tuple([told[:2] for told in self.rounds])
        self.tale = tuple([lot for _, lot in self.row])
        self.turns = turns_of(self.begin, self.rounds)
        self.last = self.rounds[-1][3] if self.rounds else self.begin
        is_whole = since is None and ways is None
        self.band = Band(ruled.hall, self.turns) if is_whole else None

    def ways_at(self, moment):
        """The ways that are followed at a moment; any value."""
        if not is_moment(moment):
            raise InvalidPlace(0)
        zero = zero_of(moment)
        ways = self.begin
        for turn in self.turns:
            if zero_order(zero_of(turn[0]), zero) < 0:
                ways = turn[1]
        return ways


def is_deaf_pair(ruled, value):
    """Whether any value is a tuple of the number of a rule and an integer from 1 on."""
    if not isinstance(value, tuple) or len(value) != 2:
        return False
    return is_number(value[0]) and value[0] < len(ruled.rules) and is_count(value[1])


def moments_to(course, moment):
    """How many moments of a course are a moment, or ahead of it."""
    ahead, is_there = place_among(moment, course.moments)
    return ahead + int(is_there)


def rounds_by(ruled, rings, number, ways, deaf):
    """The rounds behind the moment of a number: (moment, lot, rules that act, ways behind).

    By the rings (number, moment, lot) for all ways, if these are followed for ever.
    """
    heard = {}
    rounds = []
    ring = next_behind(rings[ways], number)
    while ring is not None:
        number, moment, lot = ring
        for name in lot:
            heard[name] = heard.get(name, 0) + 1
        acts = acting_rules(ruled, lot, ways, heard, deaf)
        ways = turned_ways(ruled, ways, acts)
        rounds.append((moment, lot, acts, ways))
        ring = next_behind(rings[ways], number)
    return tuple(rounds)


def next_behind(rings, number):
    """The first ring behind the moment of a number, or None."""
    for ring in rings:
        if ring[0] > number:
            return ring
    return None


def acting_rules(ruled, lot, ways, heard, deaf):
    """The numbers of the rules that act at a lot, ascending; heard has how often each bell has rung so far."""
    acting = {}
    for number in fitting_rules(ruled, lot, ways):
        bell, thing = ruled.rules[number][0], ruled.rules[number][2]
        if thing not in acting and (number, heard[bell]) not in deaf:
            acting[thing] = number
    return tuple(sorted(list(acting.values())))


def fitting_rules(ruled, lot, ways):
    """The numbers of the rules that fit a lot, with these ways ahead of it, if none is deaf; ascending."""
    fitting = []
    for number, rule in enumerate(ruled.rules):
        if rule[0] in lot and is_followed(ruled.hall, rule[1], ways):
            fitting.append(number)
    return fitting


def is_followed(hall, whiles, ways):
    """Whether things follow ways as pairs (thing, way) of names tell."""
    return all([ways[thing_number(hall, thing)] == way_number(hall, thing, way) for thing, way in whiles])


def turned_ways(ruled, ways, acts):
    """The ways behind a round at which some rules act."""
    behind = list(ways)
    for number in acts:
        thing, way = ruled.rules[number][2:]
        behind[thing_number(ruled.hall, thing)] = way_number(ruled.hall, thing, way)
    return tuple(behind)


def turns_of(ways, rounds):
    """The pairs (moment, ways behind) of the rounds behind which other ways are followed than ahead."""
    turns = []
    for told in rounds:
        if told[3] != ways:
            turns.append((told[0], told[3]))
        ways = told[3]
    return tuple(turns)


def run_paper(ruled):
    """Some paper of a run: a paper of the table of all faces, and the rounds by the numbers of its spans."""
    choices = all_ways(ruled.hall)
    paper = table_paper(course_faces(ruled.hall, choices))
    return (paper, shown_rounds(ruled, paper))


def shown_rounds(ruled, paper):
    """The rounds of the run that a paper of the table of all faces shows, or None if it is none; any value."""
    choices = all_ways(ruled.hall)
    faces = course_faces(ruled.hall, choices)
    rows = table_holds(faces, paper)
    if rows is None:
        return None
    # Without a face there is one cell, and nothing in it.
    signs = list(zip(*rows)) if rows else [()]
    numbers = {face: number for number, face in enumerate(faces)}
    rings = {}
    for ways in choices:
        rung = rung_cells(signs, numbers, ruled.hall, ways)
        rings[ways] = [(cell // 2 + 1, cell // 2 + 1, lot) for cell, lot, _ in rung]
    return rounds_by(ruled, rings, 0, ruled.hall.first, ())


def run_holds(ruled, value):
    """Whether any value is a paper of a run."""
    if not isinstance(value, tuple) or len(value) != 2:
        return False
    rounds = shown_rounds(ruled, value[0])
    return rounds is not None and is_same(value[1], rounds)
