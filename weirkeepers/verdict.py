"""The verdict: the kind that a book has on all days, and what shows it."""

from weirkeepers.days import Day
from weirkeepers.errors import NotFirstKind
from weirkeepers.lines import line_up
from weirkeepers.meetings import meet, pairs
from weirkeepers.rings import first_ring, quarrels
from weirkeepers.settled import is_settled
from weirkeepers.sharings import Sharing


class Kind:
    """The kinds of books: on every day one settled sharing, on every day some, or on some day none."""

    ONE = "one"
    SOME = "some"
    NONE = "none"


class Verdict:
    """The kind of a book, with its line, its quarrel or its ring, and the day that shows it."""

    def __init__(self, kind, *, line=None, quarrel=None, ring=None, day=None, sharings=()):
        self.kind = kind
        self.line = line
        self.quarrel = quarrel
        self.ring = ring
        self.day = day
        self.sharings = sharings

    def __eq__(self, other):
        if not isinstance(other, Verdict) or self.kind != other.kind:
            return False
        if self.line != other.line or self.quarrel != other.quarrel or self.ring != other.ring:
            return False
        return self.day == other.day and self.sharings == other.sharings


def showing_day(rights, names, weirs):
    """The day with 1 cube at these weirs, for which these rights call with 1 each; water abounds elsewhere."""
    calls = {name: 1 for name in names}
    return Day(rights, calls, {weir: 1 for weir in weirs}, water=len(rights))


def _line(rights, book):
    """The line of a book in which each two rights that meet go the same way round everywhere."""
    ahead = [(one, other) if book.goes_ahead(weir, one, other) else (other, one) for one, other, weir in pairs(rights)]
    return line_up(rights, ahead)[1]


def judge(book):
    """The verdict on a book."""
    rights = book.rights
    ring = first_ring(book)
    if ring is not None:
        return Verdict(Kind.NONE, ring=ring, day=showing_day(rights, ring[1:], ring[:1]))
    found = quarrels(book)
    if not found:
        return Verdict(Kind.ONE, line=_line(rights, book))
    names = found[0][:2]
    sharings = tuple([Sharing(rights, {name: 1}) for name in names])
    return Verdict(Kind.SOME, quarrel=found[0], day=showing_day(rights, names, found[0][2:]), sharings=sharings)


def is_line(book, thing):
    """True if the value has every right once, and of two that pass a weir the earlier one goes ahead there."""
    rights = book.rights
    if not isinstance(thing, (list, tuple)) or len(thing) != len(rights):
        return False
    if not all([name in rights for name in thing]):
        return False
    # A right that stands there twice does not go ahead of itself.
    for place, one in enumerate(thing):
        for other in thing[place + 1:]:
            if not all([book.goes_ahead(weir, one, other) for weir in meet(rights, one, other)]):
                return False
    return True


def is_two(book, day, one, other):
    """True if both sharings are settled and they are not equal."""
    return one != other and is_settled(book, day, one) and is_settled(book, day, other)


def need_first(book):
    """The line of the verdict. Raises NotFirstKind if the book is of another kind."""
    verdict = judge(book)
    if verdict.kind != Kind.ONE:
        raise NotFirstKind(verdict.kind)
    return verdict.line
