"""Heights: how a curve passes them, ring by ring, with the fewest turns, and curves that do."""

from curvebells.curves import curve_after, curve_minus, curve_scaled, without_end
from curvebells.places import gathered_places, places_of, simplest_between
from curvebells.values import sign_of

# For each degree a curve that is above all bounds at last, and its worths where it turns.
PLAIN_CURVES = {
    1: ((0, 1), ()),
    2: ((0, 0, 1), (0,)),
    3: ((0, -3, 0, 1), (2, -2)),
}
# Of degree 4: where it turns first it is lower than where it turns last, as high, or higher.
EVEN_CURVES = {
    -1: ((0, 0, -12, 4, 3), (-32, 0, -5)),
    0: ((0, 0, -2, 0, 1), (-1, 0, -1)),
    1: ((0, 0, -12, -4, 3), (-5, 0, -32)),
}


def least_sides(lots, order):
    """For each ring (side from which the curve comes, side to which it goes on), -1 for below, 1 for above.

    By some way through heights in this order, lowest first, with the fewest touches.
    """
    levels = [order.index(lot[0]) for lot in lots]
    sides = []
    # Behind the last ring there is no other height.
    side = 1 if levels and levels[-1] == len(order) - 1 else -1
    for number in range(len(levels) - 1, -1, -1):
        step = levels[number] - levels[number - 1] if number > 0 else 0
        # Between rings of one bell, and ahead of all, it may be on either side: so it need not touch.
        come = -sign_of(step) if step != 0 else -side
        sides.append((come, side))
        side = -come if step != 0 else come
    return sides[::-1]


def mode_of(come, side):
    """The word for a ring that the curve comes to from one side, and behind which it goes on to another one."""
    if come == side:
        return "touch"
    return "up" if side == 1 else "down"


def turn_places(lots, order):
    """For each turn of this way its place: 2 n at the height of the number n, 2 n + 1 between it and the next one."""
    places = []
    for number, (come, side) in enumerate(least_sides(lots, order)):
        place = 2 * order.index(lots[number][0])
        if come == side:
            places.append(place)
        if lots[number + 1:number + 2] == (lots[number],):
            places.append(place + side)
    return places


def passing_curve(lots, order):
    """(curve, heights) of a way that goes on above all heights at last, with at most three turns.

    The curve passes the heights, of the names in their order, as the lots tell at all times from some time on.
    """
    places = turn_places(lots, order)
    if len(places) == 3:
        curve, worths = EVEN_CURVES[sign_of(places[0] - places[2])]
    else:
        curve, worths = PLAIN_CURVES[len(places) + 1]
    # So that all heights find room between any two worths.
    scale = len(order) + 1
    turned = {place: scale * worth for place, worth in zip(places, worths)}
    heights = []
    height = min(list(turned.values()), default=0) - scale
    for number in range(len(order)):
        below = [turned[place] for place in turned if place < 2 * number]
        height = turned.get(2 * number, max([height, *below]) + 1)
        heights.append(height)
    return (curve_scaled(curve, scale), heights)


def begun_curve(curve, heights, rings):
    """(curve, heights) by another measure, with so many rings, the last ones, above time 0."""
    places = [place for height in heights for place in places_of(curve_minus(curve, without_end([height])))]
    told = [places[group[0]] for group in gathered_places(places)]
    first = len(told) - rings
    top, bottom = simplest_between(told[first - 1] if first > 0 else None, told[first])
    measure = 1
    powers = []
    for one in curve[::-1]:
        powers.append(one * measure)
        measure *= bottom
    # The last measure is that of one power more.
    measure //= bottom
    return (curve_after(tuple(powers[::-1]), (top, bottom)), [height * measure for height in heights])
