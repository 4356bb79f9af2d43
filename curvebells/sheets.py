"""Sheets of places, tables, sayings, rules and hands: whether a question and a value, any values, are one that holds.

Where a question is none, errors may come that the functions raise which tell it.
"""

from curvebells.blind import blind_holds, blind_lost
from curvebells.curves import is_curve
from curvebells.cuts import cut_count, cuts_hold
from curvebells.papers import place_paper_holds, sign_paper_holds
from curvebells.places import is_place, is_plain
from curvebells.pools import tree_holds
from curvebells.rules import Ruled
from curvebells.runs import run_holds
from curvebells.sayings import Band, labels_hold
from curvebells.stairs import Stair
from curvebells.starts import alike_holds
from curvebells.tables import table_holds
from curvebells.turners import Game, hand_numbers, plan_holds, rest_of
from curvebells.valid import valid_holds
from curvebells.values import is_integer, is_number, is_same, is_sequence
from curvebells.wishes import Wish


def is_before(question, value):
    """Whether a paper shows that a place is less than another one."""
    return is_placed(question, value) and value[0] == "less"


def is_same_place(question, value):
    """Whether a paper shows that a place is the same as another one."""
    return is_placed(question, value) and value[0] == "same"


def is_placed(question, value):
    """Whether a paper shows the order of two places."""
    if len(question) != 2 or not is_place(question[0]) or not is_place(question[1]):
        return False
    return place_paper_holds(question[0], question[1], value)


def is_signed(question, value):
    """Whether a paper shows that a curve has a sign at a place."""
    if len(question) != 3 or not is_curve(question[0]) or not is_place(question[1]) or not is_integer(question[2]):
        return False
    return sign_paper_holds(question[0], question[1], value) and value[0] == question[2]


def is_counted(question, value):
    """Whether cuts tell how many zeros a plain curve has."""
    if len(question) != 2 or not is_plain(question[0]) or not is_number(question[1]):
        return False
    curve, number = question
    return cuts_hold(curve, None, None, value) and cut_count(curve, None, None, value) == number


def is_table(question, value):
    """Whether a paper shows the rows of signs of curves."""
    if len(question) != 2 or not is_sequence(question[1]):
        return False
    shown = table_holds(question[0], value)
    return shown is not None and is_same(tuple(question[1]), shown)


def is_once(question, value):
    """Whether labels show that a saying holds some time."""
    return is_labelled(question, value) and True in value[1][-1]


def is_never(question, value):
    """Whether labels show that a saying never holds."""
    return is_labelled(question, value) and True not in value[1][-1]


def is_labelled(question, value):
    """Whether a value is labels of a saying."""
    if len(question) != 2 or not isinstance(question[0], Band) or not isinstance(question[1], Stair):
        return False
    return labels_hold(question[0], question[1], value)


def is_valid(question, value):
    """Whether a paper shows that a saying holds in all halls."""
    return len(question) == 1 and isinstance(question[0], Stair) and valid_holds(question[0], value)


def is_run(question, value):
    """Whether a paper shows the tale of a run."""
    if len(question) != 2 or not isinstance(question[0], Ruled):
        return False
    return run_holds(question[0], value) and is_same(question[1], shown_tale(value))


def shown_tale(paper):
    """The tale that a paper of a run shows."""
    return tuple([told[1] for told in paper[1]])


def is_wished(question):
    """Whether a question is a hall with rules, and a wish."""
    return len(question) == 2 and isinstance(question[0], Ruled) and isinstance(question[1], Wish)


def is_served(question, value):
    """Whether a value is the numbers of rules, and the paper of a run by these alone that a wish takes."""
    if not is_wished(question) or not isinstance(value, tuple) or len(value) != 2 or not isinstance(value[0], tuple):
        return False
    ruled, wish = question
    return run_holds(ruled.only(value[0]), value[1]) and wish.takes(shown_tale(value[1]))


def is_unserved(question, value):
    """Whether a tree shows that no rules serve a wish."""
    return is_wished(question) and tree_holds(question[0], question[1], value)


def is_hands(question, value):
    """Whether pairs of starts show that two lots of rules of one hall do alike."""
    if len(question) != 2 or not all([isinstance(ruled, Ruled) for ruled in question]):
        return False
    if question[0].hall.text() != question[1].hall.text():
        return False
    return alike_holds(question[0], question[1], value)


def is_game(question):
    """Whether a question of four things begins with a game and a wish."""
    return len(question) == 4 and isinstance(question[0], Game) and isinstance(question[1], Wish)


def is_aim(question):
    """Whether a question is a game, a wish, a sequence for a group, and a number or None."""
    if not is_game(question) or not is_sequence(question[2]):
        return False
    return question[3] is None or is_number(question[3])


def is_sure(question, value):
    """Whether a plan shows that a group is sure of the aim."""
    if not is_aim(question):
        return False
    game, wish, group, by = question
    return plan_holds(game, wish, group, value, by=by)


def is_unsure(question, value):
    """Whether a plan of the rest shows that a group is not sure of the aim."""
    if not is_aim(question):
        return False
    game, wish, group, by = question
    rest = [game.hands[number][0] for number in rest_of(game, hand_numbers(game, wish, group))]
    return plan_holds(game, wish, rest, value, by=by, against=True)


def is_blind(question, value):
    """Whether pairs show that a hand is sure by what it hears."""
    if not is_game(question) or not is_sequence(question[3]):
        return False
    return blind_holds(question[0], question[1], question[2], question[3], value)


def is_lost(question, value):
    """Whether nodes show that a hand is not sure by what it hears."""
    if not is_game(question) or not is_sequence(question[3]):
        return False
    return blind_lost(question[0], question[1], question[2], question[3], value)


SHEETS = {
    "before": is_before,
    "same": is_same_place,
    "sign": is_signed,
    "zeros": is_counted,
    "table": is_table,
    "once": is_once,
    "never": is_never,
    "valid": is_valid,
    "run": is_run,
    "rules": is_served,
    "no rules": is_unserved,
    "hands": is_hands,
    "sure": is_sure,
    "not sure": is_unsure,
    "blind": is_blind,
    "not blind": is_lost,
}


def is_told_sheet(kind, question, value):
    """Whether the kind is one of these, and any values in a tuple, and any value, are such a sheet that holds."""
    if kind not in SHEETS:
        return False
    holds = SHEETS[kind]
    return holds(question, value)
