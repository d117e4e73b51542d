"""Books: the order of the rights at each weir, and the promises that turn pairs of it about."""

from weirkeepers.checks import is_whole, need_right, need_weir
from weirkeepers.errors import NotBook
from weirkeepers.promises import Promise


def _need_orders(rights, orders):
    """Raises an error for the first key that is no weir, then for the first weir with a wrong order."""
    for key in orders:
        need_weir(rights.river, key)
    for weir in rights.river.weirs:
        if sorted(orders.get(weir, ())) != sorted(rights.passing(weir)):
            raise NotBook("order", weir, None)


def _told_rows(rights, promises):
    """The tuples (weir, giver, taker) that the promises say, each once, as the keys of a dict."""
    rows = [row for promise in promises for row in promise.said(rights)]
    told = {}
    for weir, giver, taker in rows:
        if (weir, taker, giver) in told:
            raise NotBook("both", weir, giver)
        told[(weir, giver, taker)] = True
    return told


def _places(names):
    """A dict from each name to its place."""
    return {name: place for place, name in enumerate(names)}


def _ascending(rights, told):
    """The tuple of the told rows, by the places of weir, giver and taker."""
    weirs = _places(rights.river.weirs)
    names = _places(rights.names)
    rows = sorted([(weirs[weir], names[giver], names[taker]) for weir, giver, taker in told])
    return tuple([(rights.river.weirs[row[0]], rights.names[row[1]], rights.names[row[2]]) for row in rows])


class Book:
    """The orders of all weirs that some right passes, and the promises."""

    def __init__(self, rights, orders, promises=()):
        _need_orders(rights, orders)
        told = _told_rows(rights, promises)
        passed = [weir for weir in rights.river.weirs if rights.passing(weir)]
        self.rights = rights
        self.river = rights.river
        self.promises = _ascending(rights, told)
        self._told = told
        self._orders = {weir: tuple(orders[weir]) for weir in passed}
        self._ranks = {weir: _places(orders[weir]) for weir in passed}

    def __eq__(self, other):
        if not isinstance(other, Book):
            return False
        return self.rights == other.rights and self._orders == other._orders and self.promises == other.promises

    @classmethod
    def alike(cls, rights, line, promises=()):
        """The book in which each weir's order is the line, without the rights that do not pass it."""
        if sorted(line) != sorted(rights.names):
            raise NotBook("line", None, None)
        orders = {weir: [name for name in line if rights.passes(name, weir)] for weir in rights.river.weirs}
        return cls(rights, orders, promises)

    def _need_passing(self, weir, names):
        """Raises an error if the weir or a right is unknown, or a right does not pass the weir."""
        need_weir(self.river, weir)
        for name in names:
            need_right(self.rights, name)
        for name in names:
            if not self.rights.passes(name, weir):
                raise NotBook("pass", weir, name)

    def _is_ahead(self, weir, one, other):
        """True if the one goes ahead of the other at the weir, which both pass."""
        if (weir, other, one) in self._told:
            return True
        if (weir, one, other) in self._told:
            return False
        return self._ranks[weir][one] < self._ranks[weir][other]

    def _own_promises(self):
        """A list of promises that say what `promises` tells."""
        return [Promise(giver, taker, weir) for weir, giver, taker in self.promises]

    def orders(self):
        """A dict from every weir that some right passes to the tuple of its order."""
        return dict(self._orders)

    def goes_ahead(self, weir, one, other):
        """True if the one goes ahead of the other at the weir."""
        self._need_passing(weir, (one, other))
        return self._is_ahead(weir, one, other)

    def ahead_at(self, weir, name):
        """The tuple of the rights that go ahead of this one at the weir."""
        self._need_passing(weir, (name,))
        return tuple([other for other in self.rights.passing(weir) if self._is_ahead(weir, other, name)])

    def ranked(self, weir):
        """The tuple of the rights that pass the weir, each ahead of all later ones, or None."""
        names = self.rights.passing(weir)
        # The rights stand in a row exactly if no two of them have as many rights ahead of them.
        ranks = {len(self.ahead_at(weir, name)): name for name in names}
        if len(ranks) < len(names):
            return None
        return tuple([ranks[rank] for rank in range(len(names))])

    def bent(self, *promises):
        """A new book with these promises behind its own."""
        return Book(self.rights, self._orders, self._own_promises() + list(promises))

    def moved(self, weir, name, place):
        """A new book in which the right stands at this place of the weir's order."""
        self._need_passing(weir, (name,))
        order = [other for other in self._orders[weir] if other != name]
        if not is_whole(place, len(order)):
            raise NotBook("place", weir, name)
        order.insert(place, name)
        orders = self.orders()
        orders[weir] = order
        return Book(self.rights, orders, self._own_promises())
