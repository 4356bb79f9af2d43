"""Ears: what a blind hand hears of a game, lot by lot."""

from curvebells.halls import bell_number
from curvebells.plays import chosen_standing, first_standing, is_standing, moves_from
from curvebells.rows import thin_lot


class Ear:
    """One hand of a game with a wish, and the bells that it hears."""

    def __init__(self, game, wish, hand, heard):
        for name in heard:
            bell_number(game.hall, name)
        self.game = game
        self.wish = wish
        self.hand = hand
        # In the hall's order; a lot keeps its own.
        self.bells = [bell[0] for bell in game.hall.bells if bell[0] in game.hands[hand][2] or bell[0] in heard]
        self.spreads = {}
        self.known = {}

    def begun(self):
        """(ends without a heard lot, pairs of what is heard first and the node then)."""
        return self.led_from((first_standing(self.game),), None)

    def led_from(self, node, choice):
        """The same behind a node where the hand chooses so, None if it doesn't choose."""
        if (node, choice) not in self.known:
            self.known[(node, choice)] = self.gathered([self.spread(standing, choice) for standing in node])
        return self.known[(node, choice)]

    def gathered(self, spreads):
        """Several spreads as one: ascending ends, ascending pairs of heard parts and nodes."""
        ends = {}
        nodes = {}
        for told, parts in spreads:
            for end in told:
                ends[end] = True
            for part, standing in parts:
                nodes.setdefault(part, {})[standing] = True
        return (tuple(sorted(ends)), tuple([(part, tuple(sorted(nodes[part]))) for part in sorted(nodes)]))

    def spread(self, begin, choice):
        """The ends behind a standing without a heard lot, and pairs (heard part, standing at this next heard lot)."""
        if (begin, choice) in self.spreads:
            return self.spreads[(begin, choice)]
        ends = []
        parts = []
        met = {}
        open_ones = [begin]
        while open_ones:
            standing = open_ones.pop()
            if standing in met:
                continue
            met[standing] = True
            moves = self.moves_by(standing, choice)
            if not moves:
                ends.append(standing)
            for told, led in moves:
                part = self.heard_part(led) if told is None else ()
                if part:
                    parts.append((part, led))
                else:
                    open_ones.append(led)
        self.spreads[(begin, choice)] = (ends, parts)
        return (ends, parts)

    def moves_by(self, standing, choice):
        """The moves from a standing, those of this hand by its choice alone."""
        if standing[3] and standing[3][0] == self.hand:
            return [(choice, chosen_standing(self.game, standing, choice))]
        return moves_from(self.game, self.wish, standing)

    def heard_part(self, standing):
        """What the hand hears of the lot at a standing, ahead of all choices there."""
        for number, _, lot in self.game.course.rings[standing[1]]:
            if number == standing[0]:
                return thin_lot(lot, self.bells)

    def is_node(self, value):
        """Whether any value is a node."""
        if not isinstance(value, tuple):
            return False
        if not all([is_standing(self.game, self.wish, standing) for standing in value]):
            return False
        if not all([one < other for one, other in zip(value, value[1:])]):
            return False
        # Of no standing there is no truth, of a node there is one.
        return len(set([self.hand in standing[3] for standing in value])) == 1

    def is_choosing(self, node):
        """Whether the hand chooses at a node."""
        return self.hand in node[0][3]

    def is_bad_end(self, end):
        """Whether an end isn't good."""
        return end[2] not in self.wish.good
