"""Removal: rights are taken away one by one, and the crowds that they form."""

from weirkeepers.checks import need_different
from weirkeepers.meetings import common, meet, met_by


def _deepest_first(rights):
    """The list of the rights, those whose last weir has the greater depth first."""
    depths = [rights.river.depth(rights.last(name)) for name in rights.names]
    rows = sorted([(-depth, place) for place, depth in enumerate(depths)])
    return [rights.names[row[1]] for row in rows]


def removal_order(rights):
    """A list of tuples (name, its last weir, the rights taken away later that meet it)."""
    left = {name: True for name in rights.names}
    order = []
    for name in _deepest_first(rights):
        del left[name]
        later = tuple([other for other in met_by(rights, name) if other in left])
        order.append((name, rights.last(name), later))
    return order


def removal_fault(rights, names):
    """The place of the first name that shares no weir with all the later names that meet it, or None."""
    need_different(rights, names)
    for place, name in enumerate(names):
        later = [other for other in names[place + 1:] if meet(rights, name, other)]
        if not common(rights, [name] + later):
            return place
    return None


def _is_part(names, others):
    """True if all the names are among the others."""
    return all([name in others for name in names])


def _is_crowd(rights, place):
    """True if the weir at this place shows a crowd that no other weir shows better or earlier."""
    weirs = rights.river.weirs
    names = rights.passing(weirs[place])
    for at, weir in enumerate(weirs):
        others = rights.passing(weir)
        is_earlier_twin = at < place and others == names
        if is_earlier_twin or (len(others) > len(names) and _is_part(names, others)):
            return False
    return bool(names)


def crowds(rights):
    """A list of tuples (weir, the rights that pass it) of the crowds that lie in no other one."""
    weirs = rights.river.weirs
    return [(weir, rights.passing(weir)) for place, weir in enumerate(weirs) if _is_crowd(rights, place)]
