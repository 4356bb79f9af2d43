"""Wishes: small machines that read tales."""

from curvebells.errors import InvalidSize, InvalidWish
from curvebells.values import as_lot, is_count, is_name_row, is_number, is_sequence


class Wish:
    """Numbered states, begun in 0; a lot leads from one by its first step that fits."""

    def __init__(self, states, good, steps):
        if not is_count(states):
            raise InvalidWish("states")
        if not is_sequence(good) or not all([is_state(state, states) for state in good]):
            raise InvalidWish("good")
        if not is_sequence(steps):
            raise InvalidWish("steps")
        for at, step in enumerate(steps):
            if not is_step(step, states):
                raise InvalidWish(at)
        self.states = states
        self.good = as_lot(good)
        self.steps = tuple([(begin, as_lot(need), as_lot(bar), behind) for begin, need, bar, behind in steps])

    def __eq__(self, other):
        if not isinstance(other, Wish):
            return False
        return self.states == other.states and self.good == other.good and self.steps == other.steps

    def rung_bells(self):
        """The names in steps, ascending."""
        names = []
        for step in self.steps:
            names = names + list(step[1]) + list(step[2])
        return as_lot(names)

    def after(self, state, lot):
        """The state behind a lot."""
        for begin, need, bar, behind in self.steps:
            if begin == state and has_all(lot, need) and has_none(lot, bar):
                return behind
        return state

    def end(self, tale, state=0):
        """The state behind a tale."""
        for lot in tale:
            state = self.after(state, lot)
        return state

    def takes(self, tale):
        """Whether the state behind a tale is good."""
        return self.end(tale) in self.good


def is_state(value, states):
    """Whether any value is one of so many states."""
    return is_number(value) and value < states


def is_step(value, states):
    """Whether any value is a step between so many states."""
    if not is_sequence(value) or len(value) != 4:
        return False
    begin, need, bar, behind = value
    if not is_state(begin, states) or not is_state(behind, states):
        return False
    return is_name_row(need) and is_name_row(bar)


def has_all(names, some):
    """Whether all of some names are among names."""
    return all([name in names for name in some])


def has_none(names, some):
    """Whether none of some names is among names."""
    return all([name not in names for name in some])


def wish_rings(bell, times=1):
    """The wish that at least so many lots have a bell."""
    if not is_count(times):
        raise InvalidSize("times")
    steps = [(state, (bell,), (), state + 1) for state in range(times)]
    return Wish(times + 1, (times,), steps)


def wish_ahead(one, other):
    """The wish that some lot has the one bell, and no lot up to it, itself too, the other."""
    return Wish(3, (1,), ((0, (other,), (), 2), (0, (one,), (), 1)))


def wish_last(bell):
    """The wish that the last lot has a bell."""
    return Wish(2, (1,), ((0, (bell,), (), 1), (1, (), (bell,), 0)))


def wish_denied(wish):
    """The wish that takes all tales that another one does not take."""
    good = [state for state in range(wish.states) if state not in wish.good]
    return Wish(wish.states, good, wish.steps)


def wish_met(wish):
    """The wish that takes a tale if another one takes some beginning of it."""
    steps = [step for step in wish.steps if step[0] not in wish.good]
    return Wish(wish.states, wish.good, steps)


def wish_both(one, other):
    """The wish that takes what both take."""
    return paired_wish(one, other, 2)


def wish_either(one, other):
    """The wish that takes what one or both take."""
    return paired_wish(one, other, 1)


def paired_wish(one, other, fewest):
    """The wish that takes what at least so many of two wishes take; its states stand for pairs of theirs."""
    pairs = [(0, 0)]
    numbers = {(0, 0): 0}
    steps = []
    at = 0
    while at < len(pairs):
        for need, bar, behind in paired_moves(one, other, pairs[at]):
            if behind not in numbers:
                numbers[behind] = len(pairs)
                pairs.append(behind)
            steps.append((at, need, bar, numbers[behind]))
        at += 1
    good = [numbers[pair] for pair in pairs if good_sides(one, other, pair) >= fewest]
    return Wish(len(pairs), good, steps)


def good_sides(one, other, pair):
    """How many states of a pair are good in their wishes."""
    return len([1 for wish, state in ((one, pair[0]), (other, pair[1])) if state in wish.good])


def paired_moves(one, other, pair):
    """What leads from a pair of states: triples (need, bar, next pair), the first that fits counts."""
    moves = []
    for need, bar, state in moves_from(one, pair[0]):
        for also_need, also_bar, also_state in moves_from(other, pair[1]):
            move = (as_lot(need + also_need), as_lot(bar + also_bar), (state, also_state))
            # What never comes to count is left out: wishes of wishes would grow by it.
            if has_none(move[0], move[1]) and not is_hidden(move, moves):
                moves.append(move)
    return moves


def moves_from(wish, state):
    """What leads from a state: triples (need, bar, next state), the last one for all other lots."""
    moves = [(need, bar, behind) for begin, need, bar, behind in wish.steps if begin == state]
    return moves + [((), (), state)]


def is_hidden(move, moves):
    """Whether one of some moves fits whenever a move does."""
    return any([has_all(move[0], need) and has_all(move[1], bar) for need, bar, _ in moves])


def lots_among(bells):
    """All lots of some names, not empty, ascending."""
    lots = [()]
    for name in as_lot(bells):
        lots = lots + [lot + (name,) for lot in lots]
    return sorted(lots)[1:]


def same_wish(one, other, bells):
    """(True, the pairs of states to which one tale leads both), or (False, a shortest tale that one takes)."""
    lots = lots_among(bells)
    pairs = [(0, 0)]
    tales = {(0, 0): ()}
    at = 0
    while at < len(pairs):
        first, second = pairs[at]
        if good_sides(one, other, pairs[at]) == 1:
            return (False, tales[pairs[at]])
        for lot in lots:
            pair = (one.after(first, lot), other.after(second, lot))
            if pair not in tales:
                tales[pair] = tales[(first, second)] + (lot,)
                pairs.append(pair)
        at += 1
    return (True, tuple(sorted(pairs)))


def least_wish(wish, bells):
    """The wish with the fewest states that takes the same tales of lots of these bells."""
    lots = lots_among(bells)
    leads = met_states(wish, lots)
    kinds = state_kinds(wish, leads)
    order = [0]
    numbers = {kinds[0]: 0}
    steps = []
    at = 0
    while at < len(order):
        for lot, behind in zip(lots, leads[order[at]]):
            if kinds[behind] not in numbers:
                numbers[kinds[behind]] = len(order)
                order.append(behind)
            if kinds[behind] != kinds[order[at]]:
                bar = [name for name in as_lot(bells) if name not in lot]
                steps.append((at, lot, bar, numbers[kinds[behind]]))
        at += 1
    good = [number for number, state in enumerate(order) if state in wish.good]
    return Wish(len(order), good, steps)


def met_states(wish, lots):
    """For each state to which some tale leads, the states behind it by each lot."""
    leads = {}
    waiting = [0]
    while waiting:
        state = waiting.pop()
        if state not in leads:
            leads[state] = [wish.after(state, lot) for lot in lots]
            waiting.extend(leads[state])
    return leads


def state_kinds(wish, leads):
    """For each state a number, alike for those behind which the same tales end well."""
    kinds = {state: int(state in wish.good) for state in leads}
    parted = 0
    # Each round tells states apart by one lot more; what is told apart stays so.
    while many_kinds(kinds) > parted:
        parted = many_kinds(kinds)
        told = {state: (kinds[state], *[kinds[behind] for behind in leads[state]]) for state in leads}
        numbers = {}
        for state in told:
            numbers.setdefault(told[state], len(numbers))
        kinds = {state: numbers[told[state]] for state in told}
    return kinds


def many_kinds(kinds):
    """How many unlike numbers states have."""
    return len(set(list(kinds.values())))
