"""Calm rights, whose amounts settle, and restless ones, whose amounts need not."""

from weirkeepers.checks import need_right
from weirkeepers.keepers import Keeper, heeded
from weirkeepers.verdict import showing_day


def _tiers(book):
    """A dict from each calm right to its tier, lower tiers first."""
    heeds = {name: heeded(book, name) for name in book.rights.names}
    tiers = {}
    found = [name for name in heeds if not heeds[name]]
    level = 1
    while found:
        for name in found:
            tiers[name] = level
        level = level + 1
        found = [name for name in heeds
                 if name not in tiers and all([other in tiers for other in heeds[name]])]
    return tiers


def tier(book, name):
    """The tier of a calm right, or None."""
    need_right(book.rights, name)
    return _tiers(book).get(name)


def calm(book):
    """The tuple of the rights that have a tier."""
    tiers = _tiers(book)
    return tuple([name for name in book.rights.names if name in tiers])


def restless(book):
    """The tuple of the rights that have no tier."""
    tiers = _tiers(book)
    return tuple([name for name in book.rights.names if name not in tiers])


def calm_amounts(book, day):
    """A dict from each calm right to its calm amount."""
    amounts = {}
    # A right of a higher tier heeds only rights of lower ones, whose amounts are there by then.
    for name in _tiers(book):
        amounts[name] = Keeper(book, day, name).given(amounts)
    return {name: amounts[name] for name in book.rights.names if name in amounts}


def rest_by(book, name, *, gap, late=0):
    """The number of acts by which a calm right has its calm amount for good, or None."""
    level = tier(book, name)
    if level is None:
        return None
    return level * gap + (level - 1) * late


class Unrest:
    """Rights that heed each other in a trail, the weirs of it, and the day on which they never rest."""

    def __init__(self, names, weirs, day):
        self.names = names
        self.weirs = weirs
        self.day = day

    def __eq__(self, other):
        if not isinstance(other, Unrest):
            return False
        return self.names == other.names and self.weirs == other.weirs and self.day == other.day


def _first_weir(book, name, other):
    """The first weir of the way of the right at which the other one goes ahead of it."""
    return [weir for weir in book.rights.way(name) if other in book.ahead_at(weir, name)][0]


def unrest(book, name):
    """The unrest of a restless right, or None."""
    need_right(book.rights, name)
    wild = restless(book)
    if name not in wild:
        return None
    trail = []
    used = {}
    following = name
    while following not in trail:
        last = following
        trail.append(last)
        following = [other for other in heeded(book, last) if other in wild][0]
        used[_first_weir(book, last, following)] = True
    weirs = tuple([weir for weir in book.river.weirs if weir in used])
    return Unrest(tuple(trail), weirs, showing_day(book.rights, trail, weirs))
