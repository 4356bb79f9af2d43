"""Turners: hands that choose at bells, and who can be sure of a wish."""

from itertools import combinations

from curvebells.courses import Course
from curvebells.errors import InvalidGame, InvalidSize, NoName, Refused
from curvebells.halls import Hall, thing_number
from curvebells.plays import all_moves, chosen_standing, first_standing, is_choice, is_standing, moves_from, need_bells
from curvebells.values import as_lot, is_name, is_name_row, is_sequence
from curvebells.wishes import has_all


class Game:
    """A hall with hands: each turns its things when one of its bells rings."""

    def __init__(self, hall, hands):
        if not isinstance(hall, Hall):
            raise InvalidSize("hall")
        if not is_sequence(hands) or len(hands) == 0:
            raise InvalidGame(-1)
        names = []
        taken = []
        for at, hand in enumerate(hands):
            if not is_hand(hall, hand, taken) or hand[0] in names:
                raise InvalidGame(at)
            names.append(hand[0])
            taken = taken + list(hand[1])
        self.hall = hall
        self.hands = tuple([(name, tuple(things), tuple(bells)) for name, things, bells in hands])
        self.course = Course(hall)
        # For each hand the numbers of its things.
        self.places = tuple([tuple([thing_number(hall, thing) for thing in hand[1]]) for hand in self.hands])


def is_hand(hall, value, taken):
    """Whether any value is a hand of a hall that has none of the things that are taken."""
    if not is_sequence(value) or len(value) != 3 or not is_name(value[0]):
        return False
    things, bells = value[1], value[2]
    if not is_name_row(things) or len(things) == 0 or not is_name_row(bells):
        return False
    if len(set(things)) < len(things) or len(set(bells)) < len(bells):
        return False
    free = [thing[0] for thing in hall.things if thing[0] not in taken]
    rung = [bell[0] for bell in hall.bells]
    return all([thing in free for thing in things]) and all([bell in rung for bell in bells])


def hand_number(game, name):
    """The number of a hand; any value as its name."""
    for number, hand in enumerate(game.hands):
        if hand[0] == name:
            return number
    raise NoName(name)


def hand_numbers(game, wish, group):
    """The numbers, ascending, of a group of hands; any values as their names."""
    need_bells(game, wish)
    return as_lot([hand_number(game, name) for name in group])


def game_first(game, wish):
    """The standing at the beginning."""
    need_bells(game, wish)
    return first_standing(game)


def game_moves(game, wish, standing):
    """The pairs (choice, next standing), (None, next standing) alone where no hand waits, () at an end; any value."""
    need_bells(game, wish)
    if not is_standing(game, wish, standing):
        raise InvalidSize("standing")
    return moves_from(game, wish, standing)


def game_standings(game, wish):
    """All standings that come, ascending."""
    need_bells(game, wish)
    return tuple(sorted(all_moves(game, wish)))


def game_play(game, wish, run):
    """The standings met, to an end, or to where a hand waits behind all choices of a run; any value as the run."""
    need_bells(game, wish)
    return played_standings(game, wish, run)


def played_standings(game, wish, run):
    """The standings that a run meets; any value as the run."""
    if not is_sequence(run):
        raise Refused(-1)
    standings = [led_on(game, wish, [first_standing(game)])]
    for at, choice in enumerate(run):
        last = standings[-1][-1]
        if not last[3] or not is_choice(game, last[3][0], choice):
            raise Refused(at)
        standings.append(led_on(game, wish, [chosen_standing(game, last, choice)]))
    return tuple([standing for part in standings for standing in part])


def led_on(game, wish, standings):
    """Some standings, and those behind them up to an end, or to where a hand waits."""
    moves = moves_from(game, wish, standings[-1])
    while moves and not standings[-1][3]:
        standings = standings + [moves[0][1]]
        moves = moves_from(game, wish, standings[-1])
    return standings


def game_turns(game, wish, run):
    """The pairs (moment, ways behind) of a run where other ways come than were ahead; any value as the run."""
    need_bells(game, wish)
    turns = []
    ahead = game.hall.first
    for number, ways, _, waiting in played_standings(game, wish, run):
        if not waiting and ways != ahead:
            turns.append((game.course.moments[number - 1], ways))
            ahead = ways
    return tuple(turns)


def is_open(wish, standing, by):
    """Whether the aim is not yet told at a standing that is no end: by a number, or, for None, at the end."""
    return by is None or (standing[0] <= by and standing[2] not in wish.good)


def is_reached(wish, standing, by):
    """Whether the aim is reached at a standing at which it is told."""
    return standing[2] in wish.good and (by is None or standing[0] <= by)


def sure_standings(wish, moves, group, by):
    """For each standing that comes, whether a group is sure of the aim from there; moves as all_moves tells them."""
    sure = {}
    for standing in list(moves)[::-1]:
        behind = [sure[led] for _, led in moves[standing]]
        if not behind or not is_open(wish, standing, by):
            sure[standing] = is_reached(wish, standing, by)
        elif standing[3] and standing[3][0] not in group:
            sure[standing] = all(behind)
        else:
            sure[standing] = any(behind)
    return sure


def plan_by(wish, moves, planners, sure, is_wanted, by):
    """The pairs (standing, choice), ascending, by which some hands keep to what is sure, or is not."""
    plan = []
    met = {}
    open_ones = [list(moves)[0]]
    while open_ones:
        standing = open_ones.pop()
        if standing not in met and is_open(wish, standing, by):
            met[standing] = True
            behind = moves[standing]
            if standing[3] and standing[3][0] in planners:
                behind = [move for move in behind if sure[move[1]] == is_wanted][:1]
                plan.append((standing, behind[0][0]))
            open_ones = open_ones + [led for _, led in behind]
    return tuple(sorted(plan))


def rest_of(game, group):
    """The numbers of all hands that are not in a group."""
    return tuple([number for number in range(len(game.hands)) if number not in group])


def sure_plan(game, wish, group, by=None):
    """(True, some plan of a group for the aim), or (False, some plan of the rest against it)."""
    numbers = hand_numbers(game, wish, group)
    return plan_among(game, wish, all_moves(game, wish), numbers, by)


def plan_among(game, wish, moves, numbers, by):
    """What sure_plan tells, by all moves and the numbers of the group."""
    sure = sure_standings(wish, moves, numbers, by)
    is_sure = sure[first_standing(game)]
    planners = numbers if is_sure else rest_of(game, numbers)
    return (is_sure, plan_by(wish, moves, planners, sure, is_sure, by))


def plan_holds(game, wish, group, value, *, by=None, against=False):
    """Whether any value is a plan of a group by which all runs reach the aim; against it: none does."""
    numbers = hand_numbers(game, wish, group)
    if not isinstance(value, tuple) or not all([is_plan_pair(game, wish, numbers, pair) for pair in value]):
        return False
    plan = dict(value)
    if len(plan) < len(value):
        return False
    met = {}
    open_ones = [first_standing(game)]
    while open_ones:
        standing = open_ones.pop()
        if standing in met:
            continue
        met[standing] = True
        behind = planned_behind(game, wish, numbers, plan, standing, by)
        if behind is None or (not behind and is_reached(wish, standing, by) == against):
            return False
        open_ones = open_ones + behind
    return True


def is_plan_pair(game, wish, group, value):
    """Whether any value is a pair of a standing at which one of a group waits, and its choice."""
    if not isinstance(value, tuple) or len(value) != 2 or not is_standing(game, wish, value[0]):
        return False
    waiting = value[0][3]
    return len(waiting) > 0 and waiting[0] in group and is_choice(game, waiting[0], value[1])


def planned_behind(game, wish, group, plan, standing, by):
    """The standings next behind one by a plan: none where the aim is told; None if the plan lacks a choice."""
    if not is_open(wish, standing, by):
        return []
    if standing[3] and standing[3][0] in group:
        if standing not in plan:
            return None
        return [chosen_standing(game, standing, plan[standing])]
    return [led for _, led in moves_from(game, wish, standing)]


def good_choices(game, wish, group):
    """For each standing at which one of a group waits: (standing, choices behind which it is sure of a good end)."""
    numbers = hand_numbers(game, wish, group)
    moves = all_moves(game, wish)
    sure = sure_standings(wish, moves, numbers, None)
    waiting = sorted([standing for standing in moves if standing[3] and standing[3][0] in numbers])
    return tuple([(standing, tuple([choice for choice, led in moves[standing] if sure[led]])) for standing in waiting])


def soonest_end(game, wish, group):
    """(least number by which a group is sure, some plan of it, some of the rest against one less), or None."""
    numbers = hand_numbers(game, wish, group)
    moves = all_moves(game, wish)
    against = None
    for by in range(len(game.course.moments) + 1):
        is_sure, plan = plan_among(game, wish, moves, numbers, by)
        if is_sure:
            return (by, plan, against)
        against = plan
    return None


def least_groups(game, wish):
    """All least groups that are sure of a good end: the names of their hands, fewest first."""
    need_bells(game, wish)
    moves = all_moves(game, wish)
    least = []
    hands = len(game.hands)
    for many in range(hands + 1):
        for group in combinations(range(hands), many):
            if not any([has_all(group, one) for one in least]):
                if sure_standings(wish, moves, group, None)[first_standing(game)]:
                    least.append(group)
    return tuple([tuple([game.hands[number][0] for number in group]) for group in least])
