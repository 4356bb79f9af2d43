"""Threats: runs of a game at whose choices no hand could have been sure of a better end of its own."""

from curvebells.errors import InvalidSize, Refused
from curvebells.plays import all_moves, chosen_standing, choices_of, first_standing, moves_from, need_bells
from curvebells.turners import played_standings, sure_standings
from curvebells.values import is_sequence
from curvebells.wishes import Wish


def need_wishes(game, wishes):
    """Raises InvalidSize for any value that is no wish for each hand, then NoName for a bell that the hall lacks."""
    if not is_sequence(wishes) or len(wishes) != len(game.hands):
        raise InvalidSize("wishes")
    if not all([isinstance(wish, Wish) for wish in wishes]):
        raise InvalidSize("wishes")
    for wish in wishes:
        need_bells(game, wish)


def lone_standings(game, wishes):
    """For each hand the standings that come with its wish, and whether it is sure of it alone from there."""
    return [sure_standings(wish, all_moves(game, wish), (hand,), None) for hand, wish in enumerate(wishes)]


def kept_run(game, wishes, run):
    """None if a run to an end is kept, else the least (number of a choice, better other choice); any values."""
    need_wishes(game, wishes)
    told = [played_standings(game, wish, run) for wish in wishes]
    if told[0][-1][3]:
        raise Refused(len(run))
    sure = lone_standings(game, wishes)
    waiting = [at for at, standing in enumerate(told[0]) if standing[3]]
    for number, at in enumerate(waiting):
        hand = told[0][at][3][0]
        if told[hand][-1][2] not in wishes[hand].good:
            for choice in choices_of(game, hand):
                if choice != run[number] and sure[hand][chosen_standing(game, told[hand][at], choice)]:
                    return (number, choice)
    return None


def kept_ends(game, wishes):
    """For each lot of hands that just have good ends in some kept run: (names, such a run), ordered; any value."""
    need_wishes(game, wishes)
    sure = lone_standings(game, wishes)
    first = (tuple([first_standing(game) for _ in wishes]), tuple([False for _ in wishes]))
    runs = {first: ()}
    open_ones = [first]
    ends = {}
    while open_ones:
        node = open_ones.pop()
        moves = joint_moves(game, wishes, sure, node)
        for choice, behind in moves:
            if behind not in runs:
                runs[behind] = runs[node] + (() if choice is None else (choice,))
                open_ones.append(behind)
        good = [standing[2] in wish.good for standing, wish in zip(node[0], wishes)]
        if not moves and all([is_good or not is_missed for is_good, is_missed in zip(good, node[1])]):
            ends[tuple([hand for hand, is_good in enumerate(good) if is_good])] = runs[node]
    order = sorted([(len(hands), hands) for hands in ends])
    return tuple([(tuple([game.hands[hand][0] for hand in hands]), ends[hands]) for _, hands in order])


def joint_moves(game, wishes, sure, node):
    """The pairs (choice, next node): a node has for each hand its standing, and whether it missed a sure choice."""
    standings, missed = node
    moves = [moves_from(game, wish, standing) for wish, standing in zip(wishes, standings)]
    joint = []
    for at, (choice, _) in enumerate(moves[0]):
        behind = missed
        if choice is not None:
            hand = standings[0][3][0]
            others = [sure[hand][led] for other, led in moves[hand] if other != choice]
            behind = (*missed[:hand], missed[hand] or any(others), *missed[hand + 1:])
        joint.append((choice, (tuple([own[at][1] for own in moves]), behind)))
    return joint
