"""Blind hands: what a hand that hears some bells alone, no moments and no choices, can be sure of."""

from itertools import combinations

from curvebells.ears import Ear
from curvebells.errors import InvalidSize, Refused
from curvebells.plays import choices_of, is_choice, need_bells
from curvebells.silent import is_lot
from curvebells.turners import hand_number
from curvebells.wishes import has_all


def ear_of(game, wish, hand, heard):
    """The ear of a hand; any values as the hand's name and the names that it hears."""
    need_bells(game, wish)
    return Ear(game, wish, hand_number(game, hand), heard)


def first_nodes(game, wish, hand, heard):
    """(ends without a heard lot, pairs of what is heard first and the node then)."""
    return ear_of(game, wish, hand, heard).begun()


def next_nodes(game, wish, hand, heard, node, choice):
    """The same behind a node where the hand chooses so, None if it doesn't choose; any values as both."""
    ear = ear_of(game, wish, hand, heard)
    if not ear.is_node(node):
        raise InvalidSize("node")
    is_fit = is_choice(game, ear.hand, choice) if ear.is_choosing(node) else choice is None
    if not is_fit:
        raise Refused(0)
    return ear.led_from(node, choice)


def node_choices(ear, node):
    """What the hand can choose at a node: None alone where it doesn't choose."""
    return choices_of(ear.game, ear.hand) if ear.is_choosing(node) else [None]


def sure_nodes(ear):
    """For each node that comes the choices behind which the hand is sure of a good end."""
    sure = {}
    open_ones = [node for _, node in ear.begun()[1]]
    while open_ones:
        node = open_ones[-1]
        lacking = []
        if node not in sure:
            lacking = [led for choice in node_choices(ear, node) for _, led in ear.led_from(node, choice)[1]
                       if led not in sure]
        if lacking:
            open_ones = open_ones + lacking
        else:
            open_ones.pop()
            if node not in sure:
                choices = node_choices(ear, node)
                sure[node] = [choice for choice in choices if is_good(ear, sure, ear.led_from(node, choice))]
    return sure


def is_good(ear, sure, led):
    """Whether all ends of a pair (ends, pairs) are good, and all its nodes are sure."""
    if any([ear.is_bad_end(end) for end in led[0]]):
        return False
    return all([len(sure[node]) > 0 for _, node in led[1]])


def blind_sure(game, wish, hand, heard):
    """(True, some pairs (hearing, choice) by which all ends are good), or (False, some closed tuple of nodes)."""
    ear = ear_of(game, wish, hand, heard)
    sure = sure_nodes(ear)
    if not is_good(ear, sure, ear.begun()):
        return (False, tuple(sorted([node for node in sure if not sure[node]])))
    pairs = []
    open_ones = [((part,), node) for part, node in ear.begun()[1]]
    while open_ones:
        hearing, node = open_ones.pop()
        choice = sure[node][0]
        if choice is not None:
            pairs.append((hearing, choice))
        open_ones = open_ones + [((*hearing, part), led) for part, led in ear.led_from(node, choice)[1]]
    return (True, tuple(sorted(pairs)))


def blind_holds(game, wish, hand, heard, value):
    """Whether any value is pairs (hearing, choice) by which all ends are good."""
    ear = ear_of(game, wish, hand, heard)
    if not isinstance(value, tuple) or not all([is_hearing_pair(ear, pair) for pair in value]):
        return False
    plan = dict(value)
    if len(plan) < len(value):
        return False
    open_ones = [((), ear.begun())]
    while open_ones:
        hearing, led = open_ones.pop()
        if any([ear.is_bad_end(end) for end in led[0]]):
            return False
        for part, node in led[1]:
            behind = (*hearing, part)
            if ear.is_choosing(node) and behind not in plan:
                return False
            choice = plan[behind] if ear.is_choosing(node) else None
            open_ones.append((behind, ear.led_from(node, choice)))
    return True


def is_hearing_pair(ear, value):
    """Whether any value is a pair of a hearing and a choice of the hand."""
    if not isinstance(value, tuple) or len(value) != 2 or not isinstance(value[0], tuple):
        return False
    if not all([is_lot(lot) and has_all(ear.bells, lot) for lot in value[0]]):
        return False
    return is_choice(ear.game, ear.hand, value[1])


def blind_lost(game, wish, hand, heard, value):
    """Whether any value is a closed tuple of nodes."""
    ear = ear_of(game, wish, hand, heard)
    if not isinstance(value, tuple) or not all([ear.is_node(node) for node in value]):
        return False
    known = {node: True for node in value}
    if not is_lost(ear, known, ear.begun()):
        return False
    for node in value:
        for choice in node_choices(ear, node):
            if not is_lost(ear, known, ear.led_from(node, choice)):
                return False
    return True


def is_lost(ear, nodes, led):
    """Whether of a pair (ends, pairs) an end isn't good, or a node holds all of one of some nodes."""
    if any([ear.is_bad_end(end) for end in led[0]]):
        return True
    # Most often it is one of these nodes itself.
    if any([node in nodes for _, node in led[1]]):
        return True
    return any([holds_part(node, nodes) for _, node in led[1]])


def holds_part(node, nodes):
    """Whether a node holds all of one of some nodes."""
    held = {standing: True for standing in node}
    return any([has_all(held, one) for one in nodes])


def least_heard(game, wish, hand):
    """All least lots of bells beside its own by which a hand is sure, fewest first."""
    need_bells(game, wish)
    own = game.hands[hand_number(game, hand)][2]
    names = [bell[0] for bell in game.hall.bells if bell[0] not in own]
    least = []
    for many in range(len(names) + 1):
        for lot in combinations(names, many):
            if not any([has_all(lot, one) for one in least]) and blind_sure(game, wish, hand, lot)[0]:
                least.append(lot)
    return tuple(least)
