"""Stamps: which steps of rooms are ahead of which in all weaves, and the joins that say so."""

from curvebells.errors import InvalidRooms, NoName
from curvebells.rooms import Rooms, is_ahead, is_leading, is_step, is_unlike_steps, join_circle, leads_of
from curvebells.rooms import shortest_road, some_weave


def need_weaves(rooms):
    """Raises InvalidRooms if no weave comes."""
    if join_circle(rooms) is not None:
        raise InvalidRooms(3)


def need_steps(rooms, *values):
    """Raises InvalidRooms if no weave comes, then NoName for the first of any values that is no step."""
    need_weaves(rooms)
    many = {name: len(tale) for name, tale in rooms.rooms}
    for value in values:
        if not is_step(many, value):
            raise NoName(value)


def stamp_of(rooms, step):
    """For each room how many of its steps are at a step or ahead of it in all weaves; any value."""
    need_steps(rooms, step)
    leads = leads_of(rooms)
    stamp = []
    for name, _ in rooms.rooms:
        numbers = [one[1] for one in leads if one[0] == name and shortest_road(leads, one, step) is not None]
        stamp.append(max(numbers, default=0))
    return tuple(stamp)


def step_relation(rooms, one, other):
    """What the one step is in all weaves: "ahead", "at once" or "behind", else "open"; any values."""
    need_steps(rooms, one, other)
    leads = leads_of(rooms)
    leads_on = shortest_road(leads, one, other) is not None
    leads_back = shortest_road(leads, other, one) is not None
    if leads_on and leads_back:
        return "at once"
    if leads_on:
        return "ahead"
    return "behind" if leads_back else "open"


def join_road(rooms, one, other):
    """Some road of fewest steps from the one step to the other one, or None; any values."""
    need_steps(rooms, one, other)
    return shortest_road(leads_of(rooms), one, other)


def is_road(rooms, one, other, value):
    """Whether any value is a road from the one step to the other one; any values as these."""
    need_steps(rooms, one, other)
    if not is_unlike_steps(rooms, value) or value[0] != one or value[-1] != other:
        return False
    return all([is_leading(rooms, step, behind) for step, behind in zip(value, value[1:])])


def three_weaves(rooms, one, other):
    """Some weaves in which the one step is ahead of the other one, at once, behind; None if it is not open."""
    if step_relation(rooms, one, other) != "open":
        return None
    joined = (rooms.with_call(one, other), rooms.with_gong(one, other), rooms.with_call(other, one))
    return tuple([some_weave(changed) for changed in joined])


def kept_calls(rooms):
    """The numbers of the calls that stay, if from the last one on each is left out that a road says without it."""
    need_weaves(rooms)
    kept = list(range(len(rooms.calls)))
    for number in range(len(rooms.calls) - 1, -1, -1):
        one, other = rooms.calls[number]
        rest = [stays for stays in kept if stays != number]
        without = Rooms(rooms.rooms, rooms.gongs, [rooms.calls[stays] for stays in rest])
        if shortest_road(leads_of(without), one, other) is not None:
            kept = rest
    return tuple(kept)


def missing_joins(rooms, weave):
    """Some triples (word, step, step), as few as can be, with which a weave alone comes."""
    need_weaves(rooms)
    triples = []
    for level in weave:
        triples = triples + missing_gongs(rooms, level)
    # Of two neighbouring levels nothing between could say that the one is ahead.
    for level, behind in zip(weave, weave[1:]):
        if not any([is_ahead(rooms, one, other) for one in level for other in behind]):
            triples.append(("call", level[0], behind[0]))
    return tuple(triples)


def missing_gongs(rooms, level):
    """The fewest gongs that join all steps of a level."""
    triples = []
    leads = leads_of(rooms)
    joined = [level[0]]
    for step in level[1:]:
        # Within a level only gongs lead.
        if not any([shortest_road(leads, one, step) is not None for one in joined]):
            triples.append(("gong", level[0], step))
        joined.append(step)
    return triples
