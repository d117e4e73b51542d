"""Every day: how much worth the orders of a book can cost on any day."""

from math import gcd

from weirkeepers.checks import need_right
from weirkeepers.verdict import need_first, showing_day


def _is_covering(book, name, cover, other):
    """True if the other right is behind this one at its weir of the cover, which no other right of it passes."""
    weir = cover[other]
    if weir not in book.river:
        return False
    passing = book.rights.passing(weir)
    if [right for right in passing if right in cover] != [other]:
        return False
    return name in passing and book.goes_ahead(weir, name, other)


def is_cover(book, name, cover):
    """True if the dict is a cover of the right."""
    need_right(book.rights, name)
    return all([_is_covering(book, name, cover, other) for other in cover])


def cover_day(book, name, cover):
    """The day on which the right keeps all rights of the cover from the water."""
    need_right(book.rights, name)
    return showing_day(book.rights, [name] + list(cover), list(cover.values()))


def _rows_behind(book, worths, name):
    """A list of tuples (first, last, worth, other): the rights behind this one, with the part of its way they pass."""
    way = book.rights.way(name)
    rows = []
    for other in book.rights.names:
        places = [place for place, weir in enumerate(way) if book.rights.passes(other, weir)]
        if places and book.goes_ahead(way[places[0]], name, other):
            rows.append((places[0], places[-1], worths[other], other))
    return rows


def _covers(rows, length):
    """A list of covers as tuples (sum, place, last place, pairs of right and place), dearest ones among them.

    The rights of a cover stand in the order of their own places on the way. It is enough that each one begins
    below the own place of the one before, and that the one before ends above its own place.
    """
    found = [(0, -1, -1, ())]
    for place in range(length):
        for first, last, worth, other in rows:
            if first <= place <= last:
                before = max([cover for cover in found if cover[1] < first and cover[2] < place])
                found.append((before[0] + worth, place, last, before[3] + ((other, place),)))
    return found


def _dearest(book, worths, name):
    """The sum and a dearest cover of the right, in a book of the first kind."""
    way = book.rights.way(name)
    dearest = max(_covers(_rows_behind(book, worths, name), len(way)))
    weirs = {other: way[place] for other, place in dearest[3]}
    return dearest[0], {other: weirs[other] for other in book.rights.names if other in weirs}


def dearest_cover(book, worths, name):
    """A tuple of the sum and a dearest cover of the right."""
    need_first(book)
    need_right(book.rights, name)
    return _dearest(book, worths, name)


class OrderPrice:
    """The order price, top / bottom, with a dearest cover that shows it and the day of that cover."""

    def __init__(self, top, bottom, name, cover, day):
        self.top = top
        self.bottom = bottom
        self.name = name
        self.day = day
        self._cover = dict(cover)

    @property
    def is_free(self):
        """True if the orders cost nothing on any day."""
        return self.top == self.bottom

    def cover(self):
        """A dearest cover of the right, or an empty dict."""
        return dict(self._cover)


def order_price(book, worths):
    """The order price of a book of the first kind."""
    need_first(book)
    name = None
    top = 1
    bottom = 1
    for other in book.rights.names:
        dearest = _dearest(book, worths, other)[0]
        if dearest * bottom > top * worths[other]:
            name = other
            top = dearest
            bottom = worths[other]
    if name is None:
        return OrderPrice(1, 1, None, {}, None)
    common = gcd(top, bottom)
    cover = _dearest(book, worths, name)[1]
    return OrderPrice(top // common, bottom // common, name, cover, cover_day(book, name, cover))


def most_worth_bound(book, worths, sharing):
    """The sum, over the rights, of cubes times the greater of worth and dearest cover's sum."""
    need_first(book)
    return sum([cubes * max(worths[name], _dearest(book, worths, name)[0]) for name, cubes in sharing])
