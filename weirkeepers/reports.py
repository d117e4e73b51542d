"""Reports: what the pages of a ledger say of a right, of all rights, and of what became known later."""

from weirkeepers.checks import need_right
from weirkeepers.gauges import Gauges
from weirkeepers.ledger import Ledger


def statement(ledger, name, known=None):
    """A list of tuples (day, call, got, released, account), one for each day."""
    need_right(ledger.book.rights, name)
    return [(page.day, page.today.call(name), page.sharing[name], page.released.get(name, 0), page.after.get(name))
            for page in ledger.pages(known)]


def totals(ledger, known=None):
    """A dict from every right to what it got and what was released from its tank, over all days."""
    pages = ledger.pages(known)
    return {name: (sum([page.sharing[name] for page in pages]), sum([page.released.get(name, 0) for page in pages]))
            for name in ledger.book.rights.names}


def _owing_since(accounts):
    """The first day from which on the account is below 0 every evening, or None if it is not so at last."""
    since = None
    for day, account in enumerate(accounts):
        if account >= 0:
            since = None
        elif since is None:
            since = day
    return since


def owing(ledger, known=None):
    """A list of (name, day, cubes) for each tank with an account below 0 at last: since when, and by how much."""
    pages = ledger.pages(known)
    rows = []
    for name in ledger.tanks.names:
        accounts = [page.after[name] for page in pages]
        since = _owing_since(accounts)
        if since is not None:
            rows.append((name, since, -accounts[-1]))
    return rows


def revision(ledger, day, old, new):
    """A list of (name, cubes as known by the old day, cubes as known by the new one) where they differ."""
    before = ledger.page(day, old).sharing
    after = ledger.page(day, new).sharing
    return [(name, cubes, after[name]) for name, cubes in before if after[name] != cubes]


def restated(ledger, day):
    """The tuple of the days by which the page is known to be another one than it was known to be before."""
    page = Ledger(ledger.book, Gauges(ledger.tanks), days=ledger.days).page(day)
    days = []
    for known in ledger.gauges().knowns():
        later = ledger.page(day, known)
        if later != page:
            days.append(known)
        page = later
    return tuple(days)
