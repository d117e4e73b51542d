"""Moves: two rights are exchanged, or one is raised, in books of the first kind."""

from weirkeepers.books import Book
from weirkeepers.checks import need_right
from weirkeepers.dealing import deal
from weirkeepers.errors import NotFirstKind, NotMove
from weirkeepers.meetings import meet, pairs
from weirkeepers.promises import Promise
from weirkeepers.twobooks import differences, need_equal_rights
from weirkeepers.verdict import Kind, judge, need_first
from weirkeepers.widening import Change


def _need_meeting(rights, one, other):
    """Raises an error if one of the two is no right, or they are the same one or do not meet."""
    weirs = meet(rights, one, other)
    if one == other or not weirs:
        raise NotMove(other)


def _promises_turned(book, one, other):
    """A list of the promises by which the two go the other way round than in the book."""
    orders = book.orders()
    promises = []
    for weir in meet(book.rights, one, other):
        giver, taker = (one, other) if book.goes_ahead(weir, one, other) else (other, one)
        # Where only an old promise of the two sends the taker behind, the order itself is right.
        if orders[weir].index(giver) < orders[weir].index(taker):
            promises.append(Promise(giver, taker, weir))
    return promises


def exchanged(book, one, other):
    """The book in which these two go the other way round wherever they meet."""
    _need_meeting(book.rights, one, other)
    kept = [Promise(giver, taker, weir) for weir, giver, taker in book.promises
            if sorted([giver, taker]) != sorted([one, other])]
    return Book(book.rights, book.orders(), kept + _promises_turned(book, one, other))


def _ahead(book):
    """A dict with a key (a, b) for each two rights that meet, a ahead of b, in a book of the first kind."""
    told = [(one, other) if book.goes_ahead(weir, one, other) else (other, one)
            for one, other, weir in pairs(book.rights)]
    return {pair: True for pair in told}


def _between(rights, told, one, other):
    """The tuple of the rights behind one of the two and ahead of the other."""
    return tuple([name for name in rights.names if ((one, name) in told and (name, other) in told)
                  or ((other, name) in told and (name, one) in told)])


def blockers(book, one, other):
    """The tuple of the rights that keep the two from being exchanged."""
    need_first(book)
    _need_meeting(book.rights, one, other)
    return _between(book.rights, _ahead(book), one, other)


def free_pairs(book):
    """A list of tuples (a, b), a ahead of b, of the rights that meet and can be exchanged."""
    need_first(book)
    names = book.rights.names
    told = _ahead(book)
    return [(one, other) for one in names for other in names
            if (one, other) in told and not _between(book.rights, told, one, other)]


def exchange_change(book, day, one, other):
    """The change from the settled sharing of the book to that of the exchanged book."""
    line = need_first(book)
    if blockers(book, one, other):
        raise NotFirstKind(Kind.NONE)
    return Change(deal(day, line), deal(day, need_first(exchanged(book, one, other))))


def turned_pairs(book, other):
    """A list of tuples (a, b): a goes ahead of b in the book, and behind it in the other one."""
    need_equal_rights(book, other)
    need_first(book)
    need_first(other)
    names = book.rights.names
    told = _ahead(book)
    goal = _ahead(other)
    return [(one, two) for one in names for two in names if (one, two) in told and (two, one) in goal]


def exchanges(book, other):
    """A list of tuples (a, b): exchanged one after another, they lead from the book to the other one."""
    left = turned_pairs(book, other)
    told = _ahead(book)
    made = []
    while left:
        one, two = [pair for pair in left if not _between(book.rights, told, pair[0], pair[1])][0]
        del told[(one, two)]
        told[(two, one)] = True
        left.remove((one, two))
        made.append((one, two))
    return made


def is_raised(book, other, name):
    """True if each difference has this right in it, and it goes ahead there in the other book."""
    found = differences(book, other)
    need_right(book.rights, name)
    return all([name in (one, two) and other.goes_ahead(weir, name, two if name == one else one)
                for weir, one, two in found])


def open_places(book, weir, name):
    """The tuple of the places in the weir's order to which the right can be moved in a book of the first kind."""
    need_first(book)
    # This also tells whether the right passes the weir.
    book.ahead_at(weir, name)
    places = range(len(book.rights.passing(weir)))
    return tuple([place for place in places if judge(book.moved(weir, name, place)).kind == Kind.ONE])
