"""Turns: rights that do not meet, and the weirs that guard all rights."""

from weirkeepers.meetings import met_by
from weirkeepers.removal import removal_order


def fullest(rights):
    """A tuple of the first weir that the most rights pass, and the tuple of these rights."""
    most = max([len(rights.passing(weir)) for weir in rights.river.weirs])
    first = [weir for weir in rights.river.weirs if len(rights.passing(weir)) == most][0]
    return first, rights.passing(first)


def _removed(rights):
    """The list of the rights in the removal order."""
    return [row[0] for row in removal_order(rights)]


def _is_free(met, names):
    """True if none of the names is among those that are met."""
    return not any([name in met for name in names])


def _first_free(groups, met):
    """The place of the first group in which no right is met, or the number of groups."""
    for place, group in enumerate(groups):
        if _is_free(met, group):
            return place
    return len(groups)


def _in_order(rights, names):
    """The tuple of these rights in the order of rights."""
    return tuple([name for name in rights.names if name in names])


def turns(rights):
    """A list of tuples of rights that do not meet, as few tuples as can be."""
    groups = []
    for name in _removed(rights)[::-1]:
        place = _first_free(groups, met_by(rights, name))
        if place == len(groups):
            groups.append([])
        groups[place].append(name)
    return [_in_order(rights, group) for group in groups]


def apart(rights):
    """A tuple of rights that do not meet, as many as can be."""
    taken = []
    for name in _removed(rights):
        if _is_free(met_by(rights, name), taken):
            taken.append(name)
    return tuple(taken)


def guards(rights):
    """A tuple of weirs, as few as can be, of which every right passes one."""
    return tuple([rights.last(name) for name in apart(rights)])
