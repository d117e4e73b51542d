"""Worths: what one cube of each right brings. Prices: what one cube costs at each weir."""

from weirkeepers.checks import is_whole, need_right, need_weirs
from weirkeepers.errors import NotWorths

MOST_WORTH = 10 ** 12


def _is_worth(value):
    """True if the value is an integer from 1 to 10 ** 12."""
    return is_whole(value, MOST_WORTH) and value > 0


class Worths:
    """A worth for each right."""

    def __init__(self, rights, worths):
        for key in worths:
            if key not in rights or not _is_worth(worths[key]):
                raise NotWorths(key)
        for name in rights.names:
            if name not in worths:
                raise NotWorths(name)
        self.rights = rights
        self._worths = {name: worths[name] for name in rights.names}

    def __eq__(self, other):
        return isinstance(other, Worths) and self.rights == other.rights and self._worths == other._worths

    def __len__(self):
        return len(self._worths)

    def __iter__(self):
        return iter(self._worths.items())

    def __getitem__(self, at):
        need_right(self.rights, at)
        return self._worths[at]

    def worth_of(self, sharing):
        """The sum of cubes times worth over all rights."""
        return sum([cubes * self._worths[name] for name, cubes in sharing])


def way_price(rights, prices, name):
    """The sum of the prices of the weirs of the way."""
    need_weirs(rights.river, prices)
    return sum([prices.get(weir, 0) for weir in rights.way(name)])


def rent(worths, prices, name):
    """What the way price leaves of the worth of the right, or 0."""
    price = way_price(worths.rights, prices, name)
    return max(0, worths[name] - price)


def ceiling(day, worths, prices):
    """What no sharing that fits is worth more than: all waters at their prices and all calls at their rents."""
    need_weirs(day.rights.river, prices)
    waters = sum([prices[weir] * day.water(weir) for weir in prices])
    return waters + sum([day.call(name) * rent(worths, prices, name) for name in day.rights.names])
