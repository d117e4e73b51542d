"""Lots: which of some offers, taken together, give a book of the first kind."""

from weirkeepers.checks import is_cubes, is_whole
from weirkeepers.errors import NotBook, NotLots, TooMany, WeirError
from weirkeepers.promises import Promise
from weirkeepers.twobooks import agree
from weirkeepers.verdict import Kind, judge

MOST_OFFERS = 6
REFUSED = "refused"


def _is_offer(rights, offer):
    """True if the value is a promise that says something of these rights."""
    if not isinstance(offer, Promise):
        return False
    try:
        offer.said(rights)
    except WeirError:
        return False
    return True


def _need_offers(book, offers):
    """Raises TooMany if there are too many offers, then NotLots for the first one that is none."""
    if len(offers) > MOST_OFFERS:
        raise TooMany(len(offers))
    for place, offer in enumerate(offers):
        if not _is_offer(book.rights, offer):
            raise NotLots(place)


def _bent(book, offers):
    """The book bent by these offers, or None if there is no such book."""
    try:
        bent = book.bent(*offers)
    except NotBook:
        return None
    return bent


def _kind(book, offers):
    """The kind of the book bent by these offers, or "refused"."""
    bent = _bent(book, offers)
    return REFUSED if bent is None else judge(bent).kind


def _all_lots(number):
    """A list of all lots of so many offers: first those of fewer places, ties as tuples."""
    lots = [()]
    for place in range(number):
        lots = lots + [lot + (place,) for lot in lots]
    return [row[1] for row in sorted([(len(lot), lot) for lot in lots])]


def _is_part(lot, other):
    """True if all places of the lot are in the other one."""
    return all([place in other for place in lot])


def _least(good):
    """The tuple of those good lots of which no other good lot is a part."""
    return tuple([lot for lot in good if not any([_is_part(other, lot) for other in good if other != lot])])


class Lots:
    """The kinds of the books that lots of offers give."""

    def __init__(self, offers, kinds):
        good = tuple([lot for lot in kinds if kinds[lot] == Kind.ONE])
        self.offers = tuple(offers)
        self.good = good
        self.least = _least(good)
        self.judged = len(kinds)
        self._kinds = {lot: kinds[lot] for lot in kinds}

    def __len__(self):
        return len(self.least)

    def __iter__(self):
        return iter(self.least)

    def kind_of(self, *places):
        """The kind of the book bent by the offers at these places, or "refused"."""
        for number, place in enumerate(places):
            if not is_whole(place, len(self.offers) - 1) or place in places[:number]:
                raise NotLots(place)
        return self._kinds[tuple(sorted(places))]

    def traps(self):
        """Yields tuples of a good lot and a place with which it is good no more."""
        for lot in self.good:
            for place in range(len(self.offers)):
                if place not in lot and tuple(sorted(lot + (place,))) not in self.good:
                    yield lot, place

    @property
    def is_monotone(self):
        """True if no offer spoils a good lot."""
        return len(list(self.traps())) == 0

    def cheapest(self, costs):
        """A tuple of the least sum of costs of a least lot and the first such lot; None if no lot is good."""
        if len(costs) != len(self.offers):
            raise NotLots(-1)
        for place, cost in enumerate(costs):
            if not is_cubes(cost):
                raise NotLots(place)
        sums = [sum([costs[at] for at in lot]) for lot in self.least]
        if not sums:
            return None
        return min(sums), self.least[sums.index(min(sums))]


def least_lots(book, offers):
    """The lots of these offers."""
    _need_offers(book, offers)
    kinds = {lot: _kind(book, [offers[place] for place in lot]) for lot in _all_lots(len(offers))}
    return Lots(offers, kinds)


def _is_idle(book, offer):
    """True if the book bent by the offer is there and agrees with the book."""
    bent = _bent(book, [offer])
    return bent is not None and agree(book, bent)


def idle(book, offers):
    """The tuple of the places of the offers that change nothing."""
    _need_offers(book, offers)
    return tuple([place for place, offer in enumerate(offers) if _is_idle(book, offer)])
