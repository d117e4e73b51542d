"""Knots: loose rights that hang together, whose cubes settle only in common."""

from weirkeepers.bounds import bounds
from weirkeepers.errors import TooMany
from weirkeepers.keepers import Keeper
from weirkeepers.meetings import meet

MOST_ROOM = 4096
FIRST_ROUNDS = 60


def room(book, day):
    """How many sharings lie within the bounds. Raises TooMany if they are more than 4096."""
    found = bounds(book, day, rounds=FIRST_ROUNDS)
    number = 1
    for name in book.rights.names:
        number = number * (found.high(name) - found.low(name) + 1)
    if number > MOST_ROOM:
        raise TooMany(number)
    return number


def steady(book, day):
    """The bounds after all rounds that change something."""
    room(book, day)
    # In a room of at most 4096 each further round that changes something takes away at least one cube.
    return bounds(book, day, rounds=FIRST_ROUNDS + MOST_ROOM)


class Knot:
    """Loose rights that hang together, and the cubes that settle them."""

    def __init__(self, names, choices):
        self.names = names
        self.choices = choices

    def __eq__(self, other):
        return isinstance(other, Knot) and self.names == other.names and self.choices == other.choices

    def __len__(self):
        return len(self.choices)

    def __contains__(self, x):
        return x in self.names


def _hanging(rights, names, first):
    """The tuple of those of the names that hang together with the first one."""
    group = [first]
    news = [first]
    while news:
        news = [name for name in names
                if name not in group and any([len(meet(rights, name, other)) > 0 for other in news])]
        group.extend(news)
    return tuple([name for name in names if name in group])


def _groups(rights, names):
    """A list of the groups of names that hang together, by their first names."""
    groups = []
    for name in names:
        if not any([name in group for group in groups]):
            groups.append(_hanging(rights, names, name))
    return groups


def _within(found, names):
    """A list of all tuples of cubes within the bounds of these rights, ascending."""
    rows = [()]
    for name in names:
        rows = [row + (cubes,) for row in rows for cubes in range(found.low(name), found.high(name) + 1)]
    return rows


def with_row(cubes, names, row):
    """A dict of these cubes, with those of the row for the names."""
    own = dict(zip(names, row))
    return {name: own.get(name, cubes[name]) for name in cubes}


def _is_choice(day, keepers, weirs, amounts):
    """True if each keeper gives just these amounts, and no weir hands out more than its water."""
    for keeper in keepers:
        if keeper.given(amounts) != amounts[keeper.name]:
            return False
    return all([sum([amounts[name] for name in day.rights.passing(weir)]) <= day.water(weir) for weir in weirs])


def _knot(book, day, found, names):
    """The knot of these rights."""
    keepers = [Keeper(book, day, name) for name in names]
    weirs = [weir for weir in book.river.weirs if any([book.rights.passes(name, weir) for name in names])]
    lows = found.lows()
    choices = [row for row in _within(found, names) if _is_choice(day, keepers, weirs, with_row(lows, names, row))]
    return Knot(names, tuple(choices))


def _unsound(day, lows, loose):
    """A list of the weirs that are not sound."""
    rights = day.rights
    calm_weirs = [weir for weir in rights.river.weirs if not any([name in loose for name in rights.passing(weir)])]
    return [weir for weir in calm_weirs if sum([lows[name] for name in rights.passing(weir)]) > day.water(weir)]


def parts(book, day):
    """What the settled sharings are made of: the steady lows, the knots, and the weirs that are not sound."""
    found = steady(book, day)
    lows = found.lows()
    loose = [name for name in book.rights.names if lows[name] < found.high(name)]
    all_knots = [_knot(book, day, found, names) for names in _groups(book.rights, loose)]
    return lows, all_knots, _unsound(day, lows, loose)


def knots(book, day):
    """A list of all knots, by their first names."""
    return parts(book, day)[1]


def why_none(book, day):
    """The first weir that is not sound, or else the first knot without a choice; None if there is neither."""
    _, all_knots, unsound = parts(book, day)
    if unsound:
        return "weir", unsound[0]
    for knot in all_knots:
        if len(knot) == 0:
            return "knot", knot.names
    return None
