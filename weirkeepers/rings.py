"""Rings: three rights that go round at a weir. Quarrels: two rights that two weirs rank unlike."""

from weirkeepers.lines import turned
from weirkeepers.meetings import meet, pairs


def _rings_at(book, weir):
    """A list of the rings at the weir, by the places of their rights."""
    names = book.rights.passing(weir)
    told = {(other, name): True for name in names for other in book.ahead_at(weir, name)}
    found = []
    for place, one in enumerate(names):
        for at in range(place + 1, len(names)):
            rounds = [turned(one, names[at], three, told) for three in names[at + 1:]]
            found.extend([(weir,) + three for three in rounds if three is not None])
    return found


def _weirs_with_rings(book):
    """A list of the weirs at which three rights go round."""
    return [weir for weir in book.river.weirs if book.ranked(weir) is None]


def first_ring(book):
    """The first ring in the order of `rings`, or None."""
    weirs = _weirs_with_rings(book)
    return _rings_at(book, weirs[0])[0] if weirs else None


def rings(book):
    """A list of all rings (weir, a, b, c), by the places of the weir and of the three rights."""
    return [ring for weir in _weirs_with_rings(book) for ring in _rings_at(book, weir)]


def _quarrel(book, one, other):
    """The quarrel of the two, or None."""
    weirs = meet(book.rights, one, other)
    ahead = [weir for weir in weirs if book.goes_ahead(weir, one, other)]
    behind = [weir for weir in weirs if weir not in ahead]
    if not ahead or not behind:
        return None
    return one, other, ahead[0], behind[0]


def quarrels(book):
    """A list of all quarrels (a, b, high, low), by the places of a and of b."""
    found = [_quarrel(book, one, other) for one, other, _ in pairs(book.rights)]
    return [quarrel for quarrel in found if quarrel is not None]


def _is_ahead(book, weir, one, other):
    """True if both are rights that pass the weir, and the one goes ahead of the other there."""
    passing = book.rights.passing(weir)
    return one in passing and other in passing and book.goes_ahead(weir, one, other)


def is_ring(book, thing):
    """True if the value is a weir and three rights that go round there, whichever comes first."""
    if not isinstance(thing, tuple) or len(thing) != 4 or thing[0] not in book.river:
        return False
    weir, one, two, three = thing
    return all([_is_ahead(book, weir, one, two), _is_ahead(book, weir, two, three), _is_ahead(book, weir, three, one)])


def is_quarrel(book, thing):
    """True if the value is two rights and two weirs: the one is ahead at the first, the other at the second."""
    if not isinstance(thing, tuple) or len(thing) != 4:
        return False
    one, other, high, low = thing
    if high not in book.river or low not in book.river:
        return False
    return _is_ahead(book, high, one, other) and _is_ahead(book, low, other, one)
