"""Ledgers: a year of days, and what is known of each of them."""

from weirkeepers.checks import is_whole
from weirkeepers.days import Day
from weirkeepers.dealing import deal
from weirkeepers.entries import MOST_DAY, MOST_KNOWN
from weirkeepers.errors import NotBook, NotLedger
from weirkeepers.gauges import need_entries
from weirkeepers.rings import first_ring
from weirkeepers.settled import bar
from weirkeepers.verdict import judge
from weirkeepers.walk import walked


class Page:
    """What a ledger says of one day."""

    def __init__(self, day, book, void, before, released, springs, today, sharing, after):
        self.day = day
        self.book = book
        self.void = void
        self.before = before
        self.released = released
        self.springs = springs
        self.today = today
        self.sharing = sharing
        self.after = after

    def __eq__(self, other):
        if not isinstance(other, Page) or self.day != other.day or self.book != other.book:
            return False
        if self.void != other.void or self.before != other.before or self.released != other.released:
            return False
        if self.springs != other.springs or self.today != other.today:
            return False
        return self.sharing == other.sharing and self.after == other.after

    def bar(self, name):
        """What keeps the right from more on this page."""
        return bar(self.book, self.today, self.sharing, name)


class Rules:
    """The book by which a day goes, the pledges that have been tried for it, and those of them that are void."""

    def __init__(self, book, tried, void):
        self.book = book
        self.tried = tried
        self.void = void
        self.line = judge(book).line


def _pledged(book, pledge):
    """The book with the pledge, or None if there is no such book or three rights go round in it."""
    promise = pledge.promise()
    try:
        bent = book.bent(promise)
    except NotBook:
        return None
    # The book had no ring, so there is one only where the promise holds.
    weirs = [row[0] for row in promise.said(book.rights)]
    return None if any([bent.ranked(weir) is None for weir in weirs]) else bent


def _gone_on(rules, pledges):
    """The rules for these pledges, the first of which have been tried already."""
    book = rules.book
    void = list(rules.void)
    for pledge in pledges[len(rules.tried):]:
        pledged = _pledged(book, pledge)
        if pledged is None:
            void.append(pledge)
        else:
            book = pledged
    return Rules(book, pledges, tuple(void))


class Ledger:
    """A book, tanks and entries over some days."""

    def __init__(self, book, gauges, *, days=12):
        if not is_whole(days, MOST_DAY + 1) or days == 0:
            raise NotLedger(-1, "days")
        if gauges.tanks.rights != book.rights:
            raise NotLedger(-1, "tanks")
        ring = first_ring(book)
        if ring is not None:
            raise NotLedger(-1, ring)
        for place, entry in enumerate(gauges):
            if entry.day >= days:
                raise NotLedger(place, "day")
        self.book = book
        self.tanks = gauges.tanks
        self.days = days
        self._gauges = gauges.merged()
        self._first = Rules(book, [], ())
        self._rules = {}

    def tell(self, *entries):
        """Adds entries; returns how many were not there already."""
        need_entries(self.tanks, entries, self.days)
        return self._gauges.tell(*entries)

    def gauges(self):
        """A new collection of the entries."""
        return self._gauges.merged()

    def _need_day(self, day):
        """Raises NotLedger if the value is no day of this year."""
        if not is_whole(day, self.days - 1):
            raise NotLedger(-1, "day")

    def _need_known(self, known):
        """Raises NotLedger if the value is no day on which something may be known, and not None."""
        if known is not None and not is_whole(known, MOST_KNOWN):
            raise NotLedger(-1, "known")

    def book_on(self, day, known=None):
        """A tuple of the book of the page and the tuple of its void pledges."""
        self._need_day(day)
        self._need_known(known)
        rules = self._rules_of(day, known)
        return rules.book, rules.void

    def page(self, day, known=None):
        """The page of the day, as known by some day."""
        self._need_day(day)
        self._need_known(known)
        return self._pages_to(day, known)[day]

    def pages(self, known=None):
        """A list of the pages of all days."""
        self._need_known(known)
        return self._pages_to(self.days - 1, known)

    def _pages_to(self, last, known):
        """A list of the pages from day 0 to the last one: each morning's accounts come from the page before."""
        pages = []
        accounts = {name: 0 for name in self.tanks.names}
        for day in range(last + 1):
            page = self._page(day, known, accounts)
            accounts = page.after
            pages.append(page)
        return pages

    def _rules_of(self, day, known):
        """The rules of a day, as known by some day."""
        pledges = self._gauges.pledges(day, known)
        # Pledges that are known later are tried later. So those that were tried for this day or the day before
        # are often the first of these, and need not be tried again.
        rows = [self._first] + [self._rules[at] for at in (day - 1, day) if at in self._rules]
        rows = [rules for rules in rows if rules.tried == pledges[:len(rules.tried)]]
        sizes = [len(rules.tried) for rules in rows]
        rules = rows[sizes.index(max(sizes))]
        if len(rules.tried) < len(pledges):
            rules = _gone_on(rules, pledges)
        self._rules[day] = rules
        return rules

    def _today(self, day, known, springs, rooms):
        """The calls and waters of a day; who has a tank calls for at most the room that is left."""
        names = self.book.rights.names
        told = {name: self._gauges.amount_of("call", name, day, known) for name in names}
        calls = {name: min(told[name], rooms.get(name, told[name])) for name in names}
        return Day.of(self.book.rights, calls, springs)

    def _page(self, day, known, before):
        """The page of the day, by the accounts of its morning."""
        rules = self._rules_of(day, known)
        springs = self._gauges.springs_on(day, known)
        released = {name: self._gauges.amount_of("release", name, day, known) for name in before}
        rooms = {name: self.tanks.left(name, before[name], released[name]) for name in before}
        today = self._today(day, known, springs, rooms)
        # Only a book of the first kind has a line.
        sharing = walked(rules.book, today) if rules.line is None else deal(today, rules.line)
        after = {name: before[name] - released[name] + sharing[name] for name in before}
        return Page(day, rules.book, rules.void, dict(before), released, springs, today, sharing, after)
