"""Widening: one weir gets more water, and who gains and who is harmed by it."""

from weirkeepers.checks import need_right
from weirkeepers.days import Day
from weirkeepers.dealing import deal, first_sharing
from weirkeepers.keepers import heeded
from weirkeepers.meetings import meet
from weirkeepers.verdict import need_first


class Change:
    """Two sharings, before and after."""

    def __init__(self, before, after):
        self.before = before
        self.after = after

    def __eq__(self, other):
        return isinstance(other, Change) and self.before == other.before and self.after == other.after

    def gain(self, name):
        """What the right has more after than before; below 0 if it has less."""
        return self.after[name] - self.before[name]

    @property
    def winners(self):
        """The tuple of the rights that have more after."""
        return tuple([name for name in self.before.rights.names if self.gain(name) > 0])

    @property
    def losers(self):
        """The tuple of the rights that have less after."""
        return tuple([name for name in self.before.rights.names if self.gain(name) < 0])

    @property
    def total(self):
        """The sum of all gains."""
        return self.after.total - self.before.total


class Harm:
    """A right that is harmed as another one gets water at the weir beyond, with the days before and after."""

    def __init__(self, harmed, harmer, weir, beyond, before, after):
        self.harmed = harmed
        self.harmer = harmer
        self.weir = weir
        self.beyond = beyond
        self.before = before
        self.after = after

    def __eq__(self, other):
        # What is told begins with a word of its own in each class below this one.
        if not isinstance(other, Harm) or self.told() != other.told():
            return False
        return self.before == other.before and self.after == other.after

    def told(self):
        """The tuple of the harmed right, the harmer, the weir that both pass and the weir beyond."""
        return self.harmed, self.harmer, self.weir, self.beyond

    def played(self, book):
        """The change from the settled sharing of the day before to that of the day after."""
        return Change(first_sharing(book, self.before), first_sharing(book, self.after))


class Widening(Harm):
    """A harm by widening."""

    def told(self):
        """The tuple of the word for this harm, and what every harm tells."""
        return "widening", self.harmed, self.harmer, self.weir, self.beyond


def harm_row(rights, name, rows):
    """The tuple (harmer, weir, weir beyond) that is told for the right, or None.

    A row has a right that goes ahead of this one, and the weir beyond for it, or None.
    """
    for harmer, beyond in rows:
        if beyond is not None:
            return harmer, meet(rights, harmer, name)[0], beyond
    return None


def day_before(rights, harmed, row):
    """The day on which the harmed right has the one cube, as the weir beyond has none for the harmer."""
    harmer, weir, beyond = row
    return Day(rights, {harmed: 1, harmer: 1}, {weir: 1, beyond: 0}, water=len(rights))


def is_harm_row(book, thing):
    """True if the value is a tuple (s, r, w, v) of two rights that pass w, r ahead of s, and a weir v."""
    if not isinstance(thing, tuple) or len(thing) != 4:
        return False
    harmed, harmer, weir, beyond = thing
    if weir not in book.river or beyond not in book.river:
        return False
    passing = book.rights.passing(weir)
    return harmed in passing and harmer in passing and book.goes_ahead(weir, harmer, harmed)


def _beyond(rights, harmed, harmer):
    """The first weir of the harmer's way that the harmed right does not pass, or None."""
    for weir in rights.way(harmer):
        if not rights.passes(harmed, weir):
            return weir
    return None


def _harm(book, name):
    """The widening of the harmed right in a book of the first kind, or None."""
    rights = book.rights
    row = harm_row(rights, name, [(harmer, _beyond(rights, name, harmer)) for harmer in heeded(book, name)])
    if row is None:
        return None
    before = day_before(rights, name, row)
    return Widening(name, row[0], row[1], row[2], before, before.widened(row[2], 1))


def widening_harm(book, name):
    """The widening of the harmed right, or None if it cannot be harmed so."""
    need_first(book)
    need_right(book.rights, name)
    return _harm(book, name)


def by_widening(book):
    """A list of the widenings of all rights that can be harmed so."""
    need_first(book)
    found = [_harm(book, name) for name in book.rights.names]
    return [harm for harm in found if harm is not None]


def is_widening(book, thing):
    """True if the value is a tuple (s, r, w, v): r goes ahead of s at w, and r but not s passes v."""
    need_first(book)
    if not is_harm_row(book, thing):
        return False
    passing = book.rights.passing(thing[3])
    return thing[1] in passing and thing[0] not in passing


def widened_change(book, day, weir, cubes=1):
    """The change from the settled sharing of the day to that with so many cubes more at this weir."""
    line = need_first(book)
    after = day.widened(weir, cubes)
    return Change(deal(day, line), deal(after, line))


def reached(book, day, weir):
    """The tuple of the rights whose cubes change as the weir gets one cube more."""
    change = widened_change(book, day, weir)
    return tuple([name for name in book.rights.names if change.gain(name) != 0])
