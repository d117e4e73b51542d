"""The walk: roads through the gates, from end to end, by pivots of a basis and of a hold."""

from weirkeepers.errors import NotEnd
from weirkeepers.ladders import Ladders, first_hold, hold_of
from weirkeepers.sharings import Sharing
from weirkeepers.table import Table, first_standing, need_gate, standing_of, wrong_columns


class Road:
    """The spots and pivots between the start, told as None, or an end, and another end or the start."""

    def __init__(self, door, ends, spots, pivots):
        self.door = door
        self.begin = ends[0]
        self.end = ends[1]
        self.spots = tuple(spots)
        self.pivots = tuple(pivots)

    def __len__(self):
        return len(self.pivots)

    def __iter__(self):
        return iter(self.pivots)


class Walker:
    """Goes along one road: a standing, a hold, and the spots and pivots so far."""

    def __init__(self, standing, hold):
        self.standing = standing
        self.hold = hold
        self.spots = [(standing.basis, hold.columns)]
        self.pivots = []

    def bring_in(self, column):
        """Makes the water pivot that brings in the column; returns the one that left."""
        pivoted = self.standing.pivoted(column)
        self.standing = pivoted[0]
        self._tell("water", column, pivoted[1])
        return pivoted[1]

    def take_out(self, column):
        """Makes the rank pivot that takes out the column; returns the one that came, or None if there is none."""
        pivoted = self.hold.pivoted(column)
        if pivoted is None:
            return None
        self.hold = pivoted[0]
        self._tell("rank", pivoted[1], column)
        return pivoted[1]

    def _tell(self, side, came, left):
        """Keeps the pivot and the spot that it leads to."""
        self.pivots.append((side, came, left))
        self.spots.append((self.standing.basis, self.hold.columns))

    def is_at_end(self):
        """True if both sets are equal."""
        return self.standing.basis == self.hold.columns

    def go_on(self, came):
        """Goes to the end of the road, first by the water pivot of this column."""
        left = self.bring_in(came)
        while not self.is_at_end():
            following = self.take_out(left)
            # Without a rank pivot this is the start.
            if following is None or self.is_at_end():
                return
            left = self.bring_in(following)


class Walk:
    """The walk on a day, by the ladders of a book."""

    def __init__(self, book, day):
        self.table = Table(day)
        self.ladders = Ladders(book, self.table)

    def is_end(self, columns):
        """True if the value is a list or tuple of columns, each once, that are an end."""
        if not isinstance(columns, (list, tuple)) or wrong_columns(self.table, columns):
            return False
        if hold_of(self.ladders, columns) is None:
            return False
        standing = standing_of(self.table, columns)
        return standing is not None and standing.is_sound

    def _need_end(self, columns):
        """Raises NotEnd if the value is no end."""
        if not self.is_end(columns):
            raise NotEnd(columns)

    def sharing(self, columns):
        """The sharing of an end."""
        self._need_end(columns)
        standing = standing_of(self.table, columns)
        names = self.table.day.rights.names
        return Sharing(self.table.day.rights, {name: standing.level(("right", name)) for name in names})

    def holders(self, columns):
        """A dict from every right to the holder of its column in an end."""
        self._need_end(columns)
        hold = hold_of(self.ladders, columns)
        return {name: hold.holder(("right", name)) for name in self.table.day.rights.names}

    def road(self, door, begin=None):
        """The road through the door from the start, or from an end."""
        need_gate(self.table, door)
        if begin is not None:
            self._need_end(begin)
        if len(self.table.day.rights) == 0:
            ends = (None, self.table.gates) if begin is None else (self.table.gates, None)
            return Road(door, ends, (), ())
        if begin is None:
            return self._road_from_start(door)
        return self._road_from_end(door, self.table.in_order(begin))

    def _road_from_start(self, door):
        """The road through the door from the start."""
        hold = first_hold(self.ladders, door)
        walker = Walker(first_standing(self.table), hold)
        # The one right of the first hold comes in.
        walker.go_on(hold.columns[-1])
        return Road(door, (None, walker.hold.columns), walker.spots, walker.pivots)

    def _road_from_end(self, door, begin):
        """The road through the door from an end."""
        walker = Walker(standing_of(self.table, begin), hold_of(self.ladders, begin))
        walker.go_on(walker.take_out(door) if door in begin else door)
        end = walker.hold.columns if walker.is_at_end() else None
        return Road(door, (begin, end), walker.spots, walker.pivots)


def walked(book, day, *, door=None):
    """The sharing of the end of the road from the start through the door, or through the first weir."""
    walk = Walk(book, day)
    road = walk.road(walk.table.gates[0] if door is None else door)
    return walk.sharing(road.end)
