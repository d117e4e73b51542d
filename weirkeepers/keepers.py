"""Keepers: what each right gets by the amounts of those that go ahead of it."""

from weirkeepers.checks import is_whole
from weirkeepers.errors import NotSharing

MOST_AMOUNT = 10 ** 31


def need_amounts(rights, amounts):
    """Raises NotSharing for the first right without an integer from 0 to 10 ** 31."""
    for name in rights.names:
        if name not in amounts or not is_whole(amounts[name], MOST_AMOUNT):
            raise NotSharing(name)


def heeded(book, name):
    """The tuple of the rights that go ahead of this one at some weir."""
    ahead = {other: True for weir in book.rights.way(name) for other in book.ahead_at(weir, name)}
    return tuple([other for other in book.rights.names if other in ahead])


def _left(water, ahead, amounts):
    """What is left of the water behind the amounts of those who go ahead."""
    return max(0, water - sum([amounts[other] for other in ahead]))


def offer(book, day, weir, name, amounts):
    """What the weir offers to a right that passes it."""
    ahead = book.ahead_at(weir, name)
    need_amounts(book.rights, amounts)
    return _left(day.water(weir), ahead, amounts)


class Keeper:
    """Gives one right the least of its call and the offers of the weirs of its way."""

    def __init__(self, book, day, name):
        self.heeds = heeded(book, name)
        self.name = name
        self._rights = book.rights
        self._call = day.call(name)
        self._weirs = tuple([(day.water(weir), book.ahead_at(weir, name)) for weir in book.rights.way(name)])

    def __call__(self, amounts):
        """What the right gets by these amounts."""
        need_amounts(self._rights, amounts)
        return self.given(amounts)

    def given(self, amounts):
        """What the keeper gives by amounts that are known to be right, at least for those that it heeds."""
        return min([self._call] + [_left(water, ahead, amounts) for water, ahead in self._weirs])


def all_keepers(book, day):
    """A dict from every right to its keeper."""
    return {name: Keeper(book, day, name) for name in book.rights.names}


def stepped(keepers, amounts):
    """What all keepers give by amounts that are known to be right."""
    return {name: keepers[name].given(amounts) for name in keepers}


def step(book, day, amounts):
    """A dict of what all keepers give by the same amounts."""
    need_amounts(book.rights, amounts)
    return stepped(all_keepers(book, day), amounts)


def is_rest(book, day, amounts):
    """True if the step returns the same amounts."""
    given = step(book, day, amounts)
    return all([given[name] == amounts[name] for name in given])
