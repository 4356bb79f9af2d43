"""Plays: the moves of a game with a wish, and all that comes of them."""

from curvebells.halls import bell_number, is_ways
from curvebells.values import is_number


def need_bells(game, wish):
    """Raises NoName for the first bell of a wish that the hall of a game lacks."""
    for name in wish.rung_bells():
        bell_number(game.hall, name)


def first_standing(game):
    """The standing at the beginning."""
    return (0, game.hall.first, 0, ())


def is_standing(game, wish, value):
    """Whether any value has the form of a standing, whether it comes or not."""
    if not isinstance(value, tuple) or len(value) != 4:
        return False
    number, ways, state, waiting = value
    if not is_number(number) or number > len(game.course.moments) or not is_number(state) or state >= wish.states:
        return False
    if not is_ways(game.hall, ways) or not isinstance(waiting, tuple):
        return False
    if not all([is_number(hand) and hand < len(game.hands) for hand in waiting]):
        return False
    return all([one < other for one, other in zip(waiting, waiting[1:])])


def choices_of(game, hand):
    """All choices of a hand, ascending: for each of its things, in their order, the number of a way."""
    choices = [()]
    for place in game.places[hand]:
        choices = [(*ahead, way) for ahead in choices for way in range(len(game.hall.things[place][1]))]
    return choices


def is_choice(game, hand, value):
    """Whether any value is a choice of a hand."""
    if not isinstance(value, tuple) or len(value) != len(game.places[hand]):
        return False
    things = [game.hall.things[place] for place in game.places[hand]]
    return all([is_number(way) and way < len(thing[1]) for way, thing in zip(value, things)])


def chosen_standing(game, standing, choice):
    """The standing behind a choice of the hand that waits."""
    number, ways, state, waiting = standing
    behind = list(ways)
    for place, way in zip(game.places[waiting[0]], choice):
        behind[place] = way
    return (number, tuple(behind), state, waiting[1:])


def next_lot(game, standing):
    """The number of the moment and the lot that ring next behind a standing, or None."""
    for number, _, lot in game.course.rings[standing[1]]:
        if number > standing[0]:
            return (number, lot)
    return None


def rung_standing(game, wish, standing, ring):
    """The standing at what rings next."""
    number, lot = ring
    waiting = [at for at, hand in enumerate(game.hands) if any([bell in lot for bell in hand[2]])]
    return (number, standing[1], wish.after(standing[2], lot), tuple(waiting))


def moves_from(game, wish, standing):
    """The pairs (choice, next standing); one of None where no hand waits, none at an end."""
    if standing[3]:
        choices = choices_of(game, standing[3][0])
        return tuple([(choice, chosen_standing(game, standing, choice)) for choice in choices])
    ring = next_lot(game, standing)
    if ring is None:
        return ()
    return ((None, rung_standing(game, wish, standing, ring)),)


def all_moves(game, wish):
    """The moves from all standings that come, each ahead of those to which its moves lead."""
    found = {}
    # Moves lead to a later moment, or to fewer hands that wait.
    open_ones = [first_standing(game)]
    while open_ones:
        standing = open_ones.pop()
        if standing not in found:
            found[standing] = moves_from(game, wish, standing)
            open_ones = open_ones + [behind for _, behind in found[standing]]
    order = sorted([(standing[0], -len(standing[3]), standing) for standing in found])
    return {placed[2]: found[placed[2]] for placed in order}
