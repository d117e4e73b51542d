"""Wheels: from one settled sharing to another, those who gain and those who lose go round."""

from weirkeepers.errors import NotSettled
from weirkeepers.settled import bar, open_rights
from weirkeepers.sharings import fits


def need_settled(book, day, sharing):
    """Raises NotSettled if the sharing does not fit, or else for the first open right."""
    if not fits(day, sharing):
        raise NotSettled(None)
    found = open_rights(book, day, sharing)
    if found:
        raise NotSettled(found[0])


def _losing(rights, one, other):
    """A list of the rights that have less in the other sharing."""
    return [name for name in rights.names if other[name] < one[name]]


def _row(book, day, one, other, name):
    """The row of a right that gains: the weir that bars it, and the first right that passes there and loses."""
    weir = bar(book, day, one, name)[1]
    return name, weir, [rival for rival in _losing(book.rights, one, other) if book.rights.passes(rival, weir)][0]


def _rows_round(book, day, one, other):
    """The rows from the first right that gains on, up to the one that leads back to a right among them."""
    gaining = _losing(book.rights, other, one)
    rows = []
    name = gaining[0]
    while name not in [row[0] for row in rows]:
        # A right that loses is one that gains on the way back.
        sharings = (one, other) if name in gaining else (other, one)
        rows.append(_row(book, day, sharings[0], sharings[1], name))
        name = rows[-1][2]
    return rows


def wheel(book, day, one, other):
    """The wheel from one settled sharing to the other; () if they are equal."""
    need_settled(book, day, one)
    need_settled(book, day, other)
    if one == other:
        return ()
    rows = _rows_round(book, day, one, other)
    names = [row[0] for row in rows]
    start = names.index(rows[-1][2])
    first = [name for name in _losing(book.rights, other, one) if name in names[start:]][0]
    at = names.index(first)
    return tuple(rows[at:] + rows[start:at])


def _is_row(book, row):
    """True if the value is a tuple of a right, a weir that it passes, and a right that goes ahead of it there."""
    if not isinstance(row, tuple) or len(row) != 3:
        return False
    name, weir, ahead = row
    if weir not in book.river:
        return False
    passing = book.rights.passing(weir)
    return name in passing and ahead in passing and book.goes_ahead(weir, ahead, name)


def _turns(day, one, other, row):
    """True if one right of the row gains and one loses, and its weir is full where the first of them has less."""
    name, weir, ahead = row
    if (other[name] - one[name]) * (other[ahead] - one[ahead]) >= 0:
        return False
    sharing = one if other[name] > one[name] else other
    return sharing.use(weir) == day.water(weir)


def is_wheel(book, day, one, other, thing):
    """True if the value is a wheel from one sharing to the other."""
    if not isinstance(thing, tuple) or len(thing) < 2 or not all([_is_row(book, row) for row in thing]):
        return False
    names = [row[0] for row in thing]
    if len(set(names)) < len(names) or names[1:] + names[:1] != [row[2] for row in thing]:
        return False
    return all([_turns(day, one, other, row) for row in thing])
