"""Topping up: the least water that must be added for a sharing."""


def _missing(springs, sharing, weir):
    """The missing water of the weir."""
    use = sharing.use(weir)
    if use == 0 or springs.water(weir) >= use:
        return 0
    return use + springs.fish(weir) - springs.natural(weir)


def top_up(springs, sharing):
    """A tuple of a dict from each weir to the cubes added there, and the weirs that show that no less will do."""
    river = springs.river
    added = {weir: 0 for weir in river.weirs}
    tight = {}
    for weir in river.downward():
        missing = _missing(springs, sharing, weir)
        above = sum([added[high] for high in river.upstream(weir)])
        tight[weir] = missing != 0 and missing >= above
        added[weir] = max(0, missing - above)
    shown = [weir for weir in river.weirs if tight[weir] and not any([tight[low] for low in river.course(weir)[1:]])]
    return added, tuple(shown)
