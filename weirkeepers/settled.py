"""Settled sharings: each right that lacks something is barred at a full weir."""

from weirkeepers.sharings import fits


def _all_ahead(book, sharing, weir, name):
    """True if each other right that gets water at the weir goes ahead of this one there."""
    users = [other for other in book.rights.passing(weir) if other != name and sharing[other] > 0]
    return all([book.goes_ahead(weir, other, name) for other in users])


def bar(book, day, sharing, name):
    """What keeps the right from more: ("call", name), ("weir", weir), or None if it is open."""
    if sharing[name] == day.call(name):
        return "call", name
    for weir in book.rights.way(name):
        if sharing.use(weir) == day.water(weir) and _all_ahead(book, sharing, weir, name):
            return "weir", weir
    return None


def bars(book, day, sharing):
    """A dict from every right to its bar."""
    return {name: bar(book, day, sharing, name) for name in book.rights.names}


def open_rights(book, day, sharing):
    """The tuple of the rights that nothing bars."""
    return tuple([name for name in book.rights.names if bar(book, day, sharing, name) is None])


def is_settled(book, day, sharing):
    """True if the sharing fits the day and no right is open."""
    return fits(day, sharing) and not open_rights(book, day, sharing)
