"""Meetings: which rights pass a weir in common."""

from weirkeepers.checks import need_right, need_rights


def meet(rights, one, other):
    """The tuple of the weirs that both rights pass, upstream first."""
    way = rights.way(one)
    other_way = rights.way(other)
    return tuple([weir for weir in way if weir in other_way])


def met_by(rights, name):
    """The tuple of the other rights that meet this one."""
    need_right(rights, name)
    return tuple([other for other in rights.names if other != name and meet(rights, name, other)])


def common(rights, names):
    """The tuple of the weirs that all these rights pass; all weirs if the list is empty."""
    need_rights(rights, names)
    weirs = rights.way(names[0]) if names else rights.river.weirs
    return tuple([weir for weir in weirs if all([rights.passes(name, weir) for name in names])])


def pairs(rights):
    """Yields (a, b, weir) for any two rights that meet: the weir is the first that both pass."""
    for place, one in enumerate(rights.names):
        for other in rights.names[place + 1:]:
            weirs = meet(rights, one, other)
            if weirs:
                yield one, other, weirs[0]
