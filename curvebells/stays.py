"""Stays: papers by two ends that a handle's tale is one for all worths between two ratios."""

from curvebells.branches import face_at
from curvebells.curves import curve_sign, curve_times, first_sign
from curvebells.cuts import NOUGHT, count_zeros, curve_parts
from curvebells.errors import InvalidSize
from curvebells.halls import mode_fits
from curvebells.pieces import pieces_between
from curvebells.places import moments_of, place_sides, ratio_against, zero_against, zero_of, zero_order
from curvebells.ratios import is_ratio, ratio_order
from curvebells.strands import graphs_of, is_one_graph
from curvebells.sweeps import Sweep
from curvebells.values import as_lot, is_integer


def need_ends(low, high):
    """Raises InvalidSize for any values that are no two ratios, the first one less."""
    if not is_ratio(low) or not is_ratio(high) or ratio_order(low, high) >= 0:
        raise InvalidSize("ends")


def stay_paper(handle, low, high):
    """Some stay for two ratios, or None if there is none; any values as the ratios."""
    need_ends(low, high)
    sweep = Sweep(handle)
    tales = sweep.tales[sweep.cell_of(low):sweep.cell_of(high) + 1]
    if not all([tale == tales[0] for tale in tales]):
        return None
    graphs = graphs_of(handle)
    for f in graphs:
        if handle.hall.bells[handle.faces[f][0]][3] == "any" and has_turn_worth(graphs[f], low, high):
            return None
    return pieces_between(handle, graphs, low, high)


def has_turn_worth(graph, low, high):
    """Whether a graph turns at a worth from one ratio to another one."""
    worths = [branch[3] if branch[4] > 0 else branch[2] for branch in graph.branches[:-1]]
    return any([ratio_against(worth, low) >= 0 and ratio_against(worth, high) <= 0 for worth in worths])


def stay_holds(handle, low, high, value):
    """The tale that any value shows as a stay for two ratios, or None if it is none; any values as the ratios."""
    need_ends(low, high)
    if not isinstance(value, tuple) or not all([is_piece_form(handle, piece) for piece in value]):
        return None
    begins = [low] + [piece[1] for piece in value]
    if [piece[0] for piece in value] + [high] != begins:
        return None
    graphs = graphs_of(handle)
    tales = [piece_tale(handle, graphs, piece) for piece in value]
    return None if None in tales else tales[0]


def is_piece_form(handle, value):
    """Whether any value has the form of a piece: two ratios, and a row of stretches for each face."""
    if not isinstance(value, tuple) or len(value) != 3 or not is_ratio(value[0]) or not is_ratio(value[1]):
        return False
    if ratio_order(value[0], value[1]) >= 0 or not isinstance(value[2], tuple):
        return False
    return len(value[2]) == len(handle.faces) and all([is_row_form(row) for row in value[2]])


def is_row_form(value):
    """Whether any value is a tuple of pairs (time, mark): ascending ratios above 0, at last None."""
    if not isinstance(value, tuple) or len(value) == 0:
        return False
    if not all([isinstance(pair, tuple) and len(pair) == 2 and is_mark(pair[1]) for pair in value]):
        return False
    times = [pair[0] for pair in value[:-1]]
    if value[-1][0] is not None or not all([is_ratio(time) for time in times]):
        return False
    return all([ratio_order(one, other) < 0 for one, other in zip([NOUGHT] + times, times)])


def is_mark(value):
    """Whether any value is 0, 1 or 2."""
    return is_integer(value) and 0 <= value <= 2


def piece_tale(handle, graphs, piece):
    """The tale that a piece shows, or None if one of its stretches is wrong."""
    rung = []
    for f, row in enumerate(piece[2]):
        stretches = stretches_of(row)
        if is_hum(handle, graphs, f):
            if not all([mark == 0 for _, mark in row]):
                return None
        elif not is_row_right(handle, graphs, f, piece, stretches):
            return None
        else:
            rung = rung + [(f, stretch) for stretch, mark in stretches if mark == 2]
    for at, one in enumerate(rung):
        if not all([are_rings_apart(handle, graphs, one, other) for other in rung[:at]]):
            return None
    return shown_tale(handle, rung)


def stretches_of(row):
    """The pairs (stretch, mark) of a row; a stretch is a pair of times, None for the time 0 and no end."""
    times = [None] + [time for time, _ in row]
    return [((begin, pair[0]), pair[1]) for begin, pair in zip(times, row)]


def is_hum(handle, graphs, f):
    """Whether a face is (), now or at some worth."""
    return handle.faces[f][1] == () if handle.faces[f][2] == 0 else f not in graphs


def is_row_right(handle, graphs, f, piece, stretches):
    """Whether all stretches of a face are right in a piece."""
    if f in graphs:
        times = [stretch[1] for stretch, _ in stretches[:-1]]
        if any([zero_against(turn, time) == 0 for turn in graphs[f].turns for time in times]):
            return False
    for stretch, mark in stretches:
        if mark == 0:
            is_right = is_calm(handle, f, piece, stretch)
        elif f in graphs:
            is_right = is_drawn(graphs[f], piece, stretch, mark)
        else:
            is_right = is_unmoved(handle, f, stretch, mark)
        if not is_right:
            return False
    return True


def is_calm(handle, f, piece, stretch):
    """Whether at both ends of a piece a face has one sign in a stretch and at its ends; it may touch if silent so."""
    bell, a, c, j = handle.faces[f]
    may_touch = handle.hall.bells[bell][3] in ("up", "down")
    signs = [calm_sign(face_at(a, c, j, one), stretch, may_touch) for one in piece[:2]]
    return signs[0] != 0 and signs[0] == signs[1]


def calm_sign(curve, stretch, may_touch):
    """The one sign of a curve other than () in a stretch and at its ends, or 0 if it has none."""
    begin, end = stretch
    sign = first_sign(curve) if begin is None else curve_sign(curve, begin)
    if end is not None and curve_sign(curve, end) != sign:
        return 0
    turning = odd_part(curve) if may_touch else curve
    return sign if count_zeros(turning, begin or NOUGHT, end) == 0 else 0


def odd_part(curve):
    """A curve that is nought just where a curve other than () changes its sign."""
    product = (1,)
    for times, plain in curve_parts(curve):
        if times & 1 == 1:
            product = curve_times(product, plain)
    return product


def branch_within(graph, stretch):
    """The number of the branch on which a stretch lies, or None if the graph turns within; it turns at no end."""
    begin, end = stretch
    ahead = [turn for turn in graph.turns if begin is not None and zero_against(turn, begin) < 0]
    behind = [turn for turn in graph.turns if end is not None and zero_against(turn, end) > 0]
    return len(ahead) if len(ahead) + len(behind) == len(graph.turns) else None


def is_drawn(graph, piece, stretch, mark):
    """Whether a graph does not turn in a stretch, and is silent there (1), or rings once for all worths (2)."""
    at = branch_within(graph, stretch)
    if at is None or graph.is_rung[2 * at] != (mark == 2):
        return False
    if mark == 1:
        return True
    if None in stretch:
        return False
    worths = [graph.worth_at(time) for time in stretch]
    low, high = worths if graph.branches[at][4] > 0 else worths[::-1]
    return ratio_order(low, piece[0]) < 0 and ratio_order(high, piece[1]) > 0


def is_unmoved(handle, f, stretch, mark):
    """Whether a face that does not feel the handle is nought at one time at most, silent (1), or at one, rings (2)."""
    begin, end = stretch
    face = handle.faces[f][1]
    if any([time is not None and curve_sign(face, time) == 0 for time in stretch]):
        return False
    many = count_zeros(face, begin or NOUGHT, end)
    if mark == 1:
        return many == 0 or (many == 1 and not is_ringing(handle, f, moment_within(face, stretch)))
    return None not in stretch and many == 1 and is_ringing(handle, f, moment_within(face, stretch))


def moment_within(face, stretch):
    """The one moment in a stretch at which a face is nought."""
    begin, end = stretch
    for moment in moments_of(face):
        if begin is None or ratio_against(moment, begin) > 0:
            return moment
    return end


def is_ringing(handle, f, moment):
    """Whether the bell of a face that does not feel the handle rings at a moment at which the face is nought."""
    bell = handle.faces[f][0]
    ahead, behind = 1, 1
    for face in handle.faces:
        if face[0] == bell:
            sides = place_sides(face[1], moment)
            ahead = ahead * sides[0]
            behind = behind * sides[1]
    return mode_fits(handle.hall.bells[bell][3], ahead, behind)


def are_rings_apart(handle, graphs, one, other):
    """Whether two stretches of rings have no time within both, or are of one bell, or of one ring for all worths."""
    f, stretch = one
    g, second = other
    if handle.faces[f][0] == handle.faces[g][0]:
        return True
    if ratio_order(stretch[1], second[0]) <= 0 or ratio_order(second[1], stretch[0]) <= 0:
        return True
    if stretch != second or (f in graphs) != (g in graphs):
        return False
    if f in graphs:
        return is_one_graph(graphs[f], graphs[g])
    moments = [zero_of(moment_within(handle.faces[k][1], stretch)) for k in (f, g)]
    return zero_order(moments[0], moments[1]) == 0


def shown_tale(handle, rung):
    """The tale of rings (face, stretch): alike stretches of unlike bells make one lot."""
    order = []
    for f, stretch in rung:
        at = len([1 for told in order if ratio_order(told[0][0], stretch[0]) <= 0])
        name = handle.hall.bells[handle.faces[f][0]][0]
        if at > 0 and order[at - 1][0] == stretch and name not in order[at - 1][1]:
            order[at - 1][1].append(name)
        else:
            order.insert(at, (stretch, [name]))
    return tuple([as_lot(names) for _, names in order])
