"""All settled sharings of a day."""

from weirkeepers.checks import is_natural, need_right
from weirkeepers.knots import parts, room, with_row
from weirkeepers.sharings import Sharing


def _all_cubes(book, day):
    """A list of the cubes of all settled sharings, as tuples in the order of rights, ascending."""
    lows, all_knots, unsound = parts(book, day)
    if unsound:
        return []
    rows = [lows]
    for knot in all_knots:
        rows = [with_row(cubes, knot.names, choice) for cubes in rows for choice in knot.choices]
    return sorted([tuple(cubes.values()) for cubes in rows])


def settled_sharings(book, day):
    """Yields all settled sharings, ascending."""
    for cubes in _all_cubes(book, day):
        yield Sharing(book.rights, dict(zip(book.rights.names, cubes)))


def how_many(book, day):
    """The number of settled sharings."""
    _, all_knots, unsound = parts(book, day)
    number = 0 if unsound else 1
    for knot in all_knots:
        number = number * len(knot)
    return number


class Listing:
    """The settled sharings of a day, kept."""

    def __init__(self, book, day):
        self.rights = book.rights
        self.day = day
        self.room = room(book, day)
        self._sharings = list(settled_sharings(book, day))

    def __eq__(self, other):
        return isinstance(other, Listing) and self.day == other.day and self._sharings == other._sharings

    def __len__(self):
        return len(self._sharings)

    def __iter__(self):
        return iter(self._sharings)

    def __getitem__(self, at):
        return self._sharings[at]

    def __contains__(self, x):
        return x in self._sharings

    def places(self, name, cubes):
        """The tuple of the places of the sharings that give the right exactly these cubes."""
        need_right(self.rights, name)
        if not is_natural(cubes):
            return ()
        return tuple([place for place, sharing in enumerate(self._sharings) if sharing[name] == cubes])
