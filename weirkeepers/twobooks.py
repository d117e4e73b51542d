"""Two books of equal rights: where they differ, and a day that parts them."""

from weirkeepers.errors import NotBook
from weirkeepers.listing import settled_sharings
from weirkeepers.promises import Promise
from weirkeepers.sharings import Sharing
from weirkeepers.verdict import showing_day


def need_equal_rights(book, other):
    """Raises NotBook if the rights of the two books are not equal."""
    if book.rights != other.rights:
        raise NotBook("rights", None, None)


class Parting:
    """The first difference of two books, the day that parts them, and the settled sharing of each on it."""

    def __init__(self, weir, one, other, day, first, second):
        self.weir = weir
        self.one = one
        self.other = other
        self.day = day
        self.first = first
        self.second = second

    def __eq__(self, other):
        if not isinstance(other, Parting):
            return False
        if self.weir != other.weir or self.one != other.one or self.other != other.other:
            return False
        return self.day == other.day and self.first == other.first and self.second == other.second


def _differences_at(book, other, weir):
    """A list of the differences at the weir."""
    names = book.rights.passing(weir)
    return [(weir, one, two) for place, one in enumerate(names) for two in names[place + 1:]
            if book.goes_ahead(weir, one, two) != other.goes_ahead(weir, one, two)]


def differences(book, other):
    """A list of tuples (weir, a, b): the two go ahead of each other the one way in the one book only."""
    need_equal_rights(book, other)
    return [row for weir in book.river.weirs for row in _differences_at(book, other, weir)]


def agree(book, other):
    """True if the books differ nowhere."""
    return not differences(book, other)


def _foremost(book, difference):
    """The right of a difference that goes ahead in the book."""
    weir, one, two = difference
    return one if book.goes_ahead(weir, one, two) else two


def parted(book, other):
    """The parting of the first difference, or None if the books agree."""
    found = differences(book, other)
    if not found:
        return None
    weir, one, two = found[0]
    day = showing_day(book.rights, (one, two), (weir,))
    first = Sharing(book.rights, {_foremost(book, found[0]): 1})
    second = Sharing(book.rights, {_foremost(other, found[0]): 1})
    return Parting(weir, one, two, day, first, second)


def is_difference(book, other, thing):
    """True if the value is a difference, with its two rights in any order."""
    found = differences(book, other)
    if not isinstance(thing, tuple) or len(thing) != 3:
        return False
    return thing in found or (thing[0], thing[2], thing[1]) in found


def same_on(book, other, day):
    """True if both books have the same settled sharings on the day."""
    need_equal_rights(book, other)
    sharings = list(settled_sharings(book, day))
    return sharings == list(settled_sharings(other, day))


def turning(book, other):
    """A tuple of promises, one for each difference, that turn what goes ahead in the book about."""
    promises = []
    for weir, one, two in differences(book, other):
        if book.goes_ahead(weir, one, two):
            promises.append(Promise(one, two, weir))
        else:
            promises.append(Promise(two, one, weir))
    return tuple(promises)
