"""Promises: one right gives way to another."""

from weirkeepers.checks import need_right, need_weir
from weirkeepers.errors import NotBook
from weirkeepers.meetings import meet


class Promise:
    """The giver gives way to the taker at one weir, or without a weir at each one that both pass."""

    def __init__(self, giver, taker, weir=None):
        self.giver = giver
        self.taker = taker
        self.weir = weir

    def __eq__(self, other):
        if not isinstance(other, Promise):
            return False
        return self.giver == other.giver and self.taker == other.taker and self.weir == other.weir

    def said(self, rights):
        """A list of (weir, giver, taker) for each weir of which the promise speaks, upstream first."""
        need_right(rights, self.giver)
        need_right(rights, self.taker)
        if self.weir is not None:
            need_weir(rights.river, self.weir)
        if self.giver == self.taker:
            raise NotBook("self", self.weir, self.giver)
        weirs = [weir for weir in meet(rights, self.giver, self.taker) if self.weir is None or weir == self.weir]
        if not weirs:
            raise NotBook("meet", self.weir, self.giver)
        return [(weir, self.giver, self.taker) for weir in weirs]
