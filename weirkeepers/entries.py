"""Entries: what is told of a day, and on which day it was known."""

from weirkeepers.checks import is_whole
from weirkeepers.errors import NotEntry
from weirkeepers.promises import Promise
from weirkeepers.rivers import is_name

MOST_DAY = 11
MOST_KNOWN = 99
MOST_NUMBER = 10 ** 6
MOST_AMOUNT = 10 ** 28


def _need_name(value, cause):
    """Raises NotEntry with this cause if the value is no name."""
    if not is_name(value):
        raise NotEntry(cause)


class Entry:
    """What all entries tell. Only the classes below are made."""

    KIND = ""
    IS_READ = False

    def __init__(self, day, known, number):
        if not is_whole(day, MOST_DAY):
            raise NotEntry("day")
        # What is read off a river or a tank cannot be known before it is there.
        if not is_whole(known, MOST_KNOWN) or (self.IS_READ and known < day):
            raise NotEntry("known")
        if not is_whole(number, MOST_NUMBER):
            raise NotEntry("number")
        self.day = day
        self.known = known
        self.number = number
        self._words = ()

    def __eq__(self, other):
        return isinstance(other, Entry) and self.row() == other.row()

    def row(self):
        """A tuple of all that the entry tells, its kind first."""
        return (self.KIND, self.day, self.known, self.number) + self._words

    def as_line(self):
        """The text of the entry."""
        words = " ".join((self.KIND,) + self._words)
        return f"{words} on {self.day} known {self.known} number {self.number}"

    def text(self):
        """The line of the entry."""
        return self.as_line()

    def take(self, name, amount):
        """Keeps the name and the amount of an entry that has them."""
        _need_name(name, "name")
        if not is_whole(amount, MOST_AMOUNT):
            raise NotEntry("amount")
        self.name = name
        self.amount = amount
        self._words = (name, str(amount))


class SpringRead(Entry):
    """What the spring at a weir gave."""

    KIND = "spring"
    IS_READ = True

    def __init__(self, day, known, number, name, amount):
        super().__init__(day, known, number)
        self.take(name, amount)

    def __eq__(self, other):
        return isinstance(other, SpringRead) and self.row() == other.row()

    def text(self):
        """The line of the entry."""
        return self.as_line()


class FishOrder(Entry):
    """The fish water of a weir from that day on."""

    KIND = "fish"

    def __init__(self, day, known, number, name, amount):
        super().__init__(day, known, number)
        self.take(name, amount)

    def __eq__(self, other):
        return isinstance(other, FishOrder) and self.row() == other.row()

    def text(self):
        """The line of the entry."""
        return self.as_line()


class CallTold(Entry):
    """What a right calls for."""

    KIND = "call"

    def __init__(self, day, known, number, name, amount):
        super().__init__(day, known, number)
        self.take(name, amount)

    def __eq__(self, other):
        return isinstance(other, CallTold) and self.row() == other.row()

    def text(self):
        """The line of the entry."""
        return self.as_line()


class Release(Entry):
    """What was released from the tank of a right."""

    KIND = "release"
    IS_READ = True

    def __init__(self, day, known, number, name, amount):
        super().__init__(day, known, number)
        self.take(name, amount)

    def __eq__(self, other):
        return isinstance(other, Release) and self.row() == other.row()

    def text(self):
        """The line of the entry."""
        return self.as_line()


class Pledge(Entry):
    """A promise that is made from that day on."""

    KIND = "pledge"

    def __init__(self, day, known, number, giver, taker, weir=None):
        super().__init__(day, known, number)
        _need_name(giver, "giver")
        _need_name(taker, "taker")
        if weir is not None:
            _need_name(weir, "weir")
        self.giver = giver
        self.taker = taker
        self.weir = weir
        self._words = (giver, taker) if weir is None else (giver, taker, "at", weir)

    def __eq__(self, other):
        return isinstance(other, Pledge) and self.row() == other.row()

    def text(self):
        """The line of the entry."""
        return self.as_line()

    def promise(self):
        """The promise that is made."""
        return Promise(self.giver, self.taker, self.weir)


def entry_of(kind, day, known, number, name, amount):
    """The entry of one of the four kinds with an amount."""
    if kind == SpringRead.KIND:
        return SpringRead(day, known, number, name, amount)
    if kind == FishOrder.KIND:
        return FishOrder(day, known, number, name, amount)
    if kind == CallTold.KIND:
        return CallTold(day, known, number, name, amount)
    return Release(day, known, number, name, amount)
