"""Rules: what things turn to when bells ring."""

from curvebells.errors import InvalidRule, InvalidSize, InvalidText, NoName
from curvebells.halls import bell_number, thing_number, way_number
from curvebells.values import is_lot_below, is_name, is_number, is_sequence

MOST_RULES = 6


class Ruled:
    """A hall with rules."""

    def __init__(self, hall, rules=()):
        if not is_sequence(rules) or len(rules) > MOST_RULES:
            raise InvalidRule(-1)
        for at, rule in enumerate(rules):
            if not is_rule(hall, rule):
                raise InvalidRule(at)
        self.hall = hall
        self.rules = tuple(rules)

    @staticmethod
    def read(hall, text):
        """The rules of a hall by a string as the method text writes it."""
        rows = text.split("\n") if text != "" else []
        rules = [read_rule(row.split(" ")) for row in rows]
        for at, rule in enumerate(rules):
            if rule is None:
                raise InvalidText(at)
        return Ruled(hall, rules)

    def text(self):
        """A row for each rule, joined by line ends."""
        return "\n".join([rule_text(rule) for rule in self.rules])

    def ordered(self, order):
        """The same rules in another order; any value as the order."""
        if not is_sequence(order) or not all([is_number(number) for number in order]):
            raise InvalidSize("order")
        if sorted(order) != list(range(len(self.rules))):
            raise InvalidSize("order")
        return Ruled(self.hall, [self.rules[number] for number in order])

    def only(self, lot):
        """These rules alone; any value as the lot."""
        if not is_lot_below(lot, len(self.rules)):
            raise InvalidSize("lot")
        return Ruled(self.hall, [self.rules[number] for number in lot])


def is_rule(hall, value):
    """Whether any value is a rule of a hall."""
    if not isinstance(value, tuple) or len(value) != 4 or not isinstance(value[1], tuple):
        return False
    bell, whiles, thing, way = value
    if not all([isinstance(pair, tuple) and len(pair) == 2 for pair in whiles]):
        return False
    try:
        bell_number(hall, bell)
        way_number(hall, thing, way)
        for other, followed in whiles:
            way_number(hall, other, followed)
        numbers = [thing_number(hall, pair[0]) for pair in whiles]
    except NoName:
        return False
    return is_lot_below(numbers, len(hall.things))


def rule_text(rule):
    """The row of a rule."""
    bell, whiles, thing, way = rule
    words = ["when", bell]
    if whiles:
        words.append("while")
    for pair in whiles:
        words = words + list(pair)
    return " ".join([*words, "turn", thing, way])


def read_rule(words):
    """The rule, of whatever hall, that the words of a row tell, or None."""
    if len(words) < 5 or not all([is_name(word) for word in words]):
        return None
    if words[0] != "when" or words[-3] != "turn" or not is_while_row(words[2:-3]):
        return None
    # Things may be called while or turn, so the words count by their places alone.
    told = words[3:-3]
    return (words[1], tuple(zip(told[::2], told[1::2])), words[-2], words[-1])


def is_while_row(words):
    """Whether words are none, or while and one pair or more."""
    return len(words) == 0 or (words[0] == "while" and len(words) > 1 and len(words) & 1 == 1)
