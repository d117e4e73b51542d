"""Ends: all of them, and how the roads pair them."""

from math import comb

from weirkeepers.errors import TooMany
from weirkeepers.walk import Walk

MOST_WAYS = 4096


def _choices(columns, size):
    """A list of all tuples of so many of the columns, ascending."""
    rows = [()]
    for number in range(size):
        # Only what leaves enough columns for the rest of the choice is gone on with.
        last = len(columns) - size + number
        rows = [row + (place,) for row in rows for place in range(row[-1] + 1 if row else 0, last + 1)]
    return [tuple([columns[place] for place in row]) for row in rows]


def _ascending(walk, rows):
    """A list of the sets of columns, or tuples of them, each once, in ascending order."""
    places = sorted([tuple([walk.table.place_of(column) for column in row]) for row in rows])
    return [tuple([walk.table.columns[place] for place in row]) for row in places]


def _all_ends(walk):
    """A list of all ends, ascending. Raises TooMany if there are too many sets of columns."""
    table = walk.table
    ways = comb(len(table.columns), len(table.gates))
    if ways > MOST_WAYS:
        raise TooMany(ways)
    return [columns for columns in _choices(table.columns, len(table.gates)) if walk.is_end(columns)]


def ends(book, day):
    """A list of all ends, ascending."""
    return _all_ends(Walk(book, day))


def paired(book, day, door):
    """A list of pairs of ends, one for each road through the door; the first begins at the start, told as None."""
    walk = Walk(book, day)
    found = _all_ends(walk)
    pairs_found = [(None, walk.road(door).end)]
    for one in found:
        other = walk.road(door, one).end
        if other is not None and found.index(one) < found.index(other):
            pairs_found.append((one, other))
    return pairs_found


def reached(book, day):
    """A list, ascending, of all ends that roads lead to from the start, through any doors."""
    walk = Walk(book, day)
    found = []
    news = [None]
    while news:
        roads = [walk.road(door, begin) for begin in news for door in walk.table.gates]
        news = []
        for road in roads:
            if road.end is not None and road.end not in found:
                found.append(road.end)
                news.append(road.end)
    return _ascending(walk, found)
