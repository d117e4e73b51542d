"""Rain: a weir and all weirs below it get more water, and who is harmed by it."""

from weirkeepers.checks import need_right
from weirkeepers.dealing import deal
from weirkeepers.keepers import heeded
from weirkeepers.rivers import SEA
from weirkeepers.verdict import need_first
from weirkeepers.widening import Change, Harm, by_widening, day_before, harm_row, is_harm_row


class Rain(Harm):
    """A harm by rain."""

    def told(self):
        """The tuple of the word for this harm, and what every harm tells."""
        return "rain", self.harmed, self.harmer, self.weir, self.beyond


def _beyond(rights, harmed, harmer):
    """The weir just below the last weir of the harmed right if the harmer passes it, or None."""
    low = rights.river.below(rights.last(harmed))
    return low if low != SEA and rights.passes(harmer, low) else None


def _harm(book, name):
    """The rain that harms the right in a book of the first kind, or None."""
    rights = book.rights
    row = harm_row(rights, name, [(harmer, _beyond(rights, name, harmer)) for harmer in heeded(book, name)])
    if row is None:
        return None
    before = day_before(rights, name, row)
    return Rain(name, row[0], row[1], row[2], before, before.rained(row[2], 1))


def rain_harm(book, name):
    """The rain that harms the right, or None if it cannot be harmed so."""
    need_first(book)
    need_right(book.rights, name)
    return _harm(book, name)


def by_rain(book):
    """A list of the rains of all rights that can be harmed so."""
    need_first(book)
    found = [_harm(book, name) for name in book.rights.names]
    return [harm for harm in found if harm is not None]


def is_rain(book, thing):
    """True if the value is a tuple (s, r, w, v): r goes ahead of s at w, and passes v below the last weir of s."""
    need_first(book)
    if not is_harm_row(book, thing):
        return False
    harmed, harmer, _, beyond = thing
    return beyond in book.river.course(book.rights.last(harmed))[1:] and book.rights.passes(harmer, beyond)


def rain_change(book, day, weir, cubes=1):
    """The change from the settled sharing of the day to that with rain of so many cubes at this weir."""
    line = need_first(book)
    after = day.rained(weir, cubes)
    return Change(deal(day, line), deal(after, line))


def spared(book):
    """The tuple of the rights that can be harmed by widening but not by rain."""
    harmed = [harm.harmed for harm in by_rain(book)]
    return tuple([harm.harmed for harm in by_widening(book) if harm.harmed not in harmed])
