"""Bounds: what all amounts at rest lie between."""

from weirkeepers.checks import need_right
from weirkeepers.keepers import all_keepers, need_amounts, stepped


class Bounds:
    """The least and the most cubes of each right after some rounds."""

    def __init__(self, rights, lows, highs, rounds):
        self.rounds = rounds
        self._rights = rights
        self._lows = dict(lows)
        self._highs = dict(highs)

    def __eq__(self, other):
        if not isinstance(other, Bounds):
            return False
        return self._lows == other._lows and self._highs == other._highs and self.rounds == other.rounds

    def __contains__(self, x):
        need_amounts(self._rights, x)
        return all([self._lows[name] <= x[name] <= self._highs[name] for name in self._lows])

    def low(self, name):
        """The least of the right."""
        need_right(self._rights, name)
        return self._lows[name]

    def high(self, name):
        """The most of the right."""
        need_right(self._rights, name)
        return self._highs[name]

    def lows(self):
        """A dict from every right to its least."""
        return dict(self._lows)

    def highs(self):
        """A dict from every right to its most."""
        return dict(self._highs)

    @property
    def is_met(self):
        """True if the lows equal the highs."""
        return self._lows == self._highs


def bounds(book, day, *, rounds=60):
    """The bounds after so many rounds, or after the last one that changes something."""
    keepers = all_keepers(book, day)
    lows = {name: 0 for name in keepers}
    highs = stepped(keepers, lows)
    made = 0
    while made < rounds:
        new_lows = stepped(keepers, highs)
        # The highs are the step of the lows, so they change with these alone.
        if new_lows == lows:
            break
        lows = new_lows
        highs = stepped(keepers, lows)
        made = made + 1
    return Bounds(book.rights, lows, highs, made)
