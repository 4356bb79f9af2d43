"""Looms: how weaves of rooms go on, level by level, from how many steps of each room are done."""


class Loom:
    """Rooms, and the levels by which their weaves go on; rooms are told by their numbers here."""

    def __init__(self, rooms):
        self.names = [name for name, _ in rooms.rooms]
        self.many = tuple([len(tale) for _, tale in rooms.rooms])
        self.gongs = [(self.placed(one), self.placed(other)) for one, other in rooms.gongs]
        self.calls = [(self.placed(one), self.placed(other)) for one, other in rooms.calls]

    def placed(self, step):
        """A step with the number of its room for the name."""
        return (self.names.index(step[0]), step[1])

    def none_done(self):
        """How many steps are done at first: none of each room."""
        return tuple([0 for _ in self.names])

    def bare_levels(self, done):
        """All lots of rooms, ascending, that may have their next steps at once if there were no joins."""
        levels = [()]
        for room, many in enumerate(self.many):
            if done[room] < many:
                levels = levels + [(*level, room) for level in levels]
        return sorted(levels)[1:]

    def fits(self, done, level):
        """Whether no join bars the next steps of these rooms as the next level."""
        steps = [(room, done[room] + 1) for room in level]
        if not all([(one in steps) == (other in steps) for one, other in self.gongs]):
            return False
        return all([one[1] <= done[one[0]] for one, other in self.calls if other in steps])

    def levels(self, done):
        """All lots of rooms, ascending, whose next steps may be the next level."""
        return [level for level in self.bare_levels(done) if self.fits(done, level)]

    def steps_at(self, done, level):
        """The steps of a level."""
        return tuple([(self.names[room], done[room] + 1) for room in level])


def led_on(done, level):
    """How many steps of each room are done behind a level."""
    return tuple([many + int(room in level) for room, many in enumerate(done)])


def standing_of(done):
    """The standing behind a level."""
    return tuple([2 * many for many in done])


def standing_at(done, level):
    """The standing at a level behind which so many steps were done."""
    return tuple([2 * many + int(room in level) for room, many in enumerate(done)])
