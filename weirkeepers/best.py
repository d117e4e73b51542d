"""Sharings of most worth, and prices that show them."""

from weirkeepers.checks import is_natural, need_weir, need_weirs
from weirkeepers.days import Day
from weirkeepers.sharings import Sharing, unfit
from weirkeepers.table import Table, first_standing
from weirkeepers.worths import rent, way_price


class Best:
    """A sharing of most worth, its worth, and prices that show it."""

    def __init__(self, worths, sharing, prices):
        self.sharing = sharing
        self.value = worths.worth_of(sharing)
        self._worths = worths
        self._prices = dict(prices)

    def __eq__(self, other):
        if not isinstance(other, Best):
            return False
        return self.sharing == other.sharing and self.value == other.value and self._prices == other._prices

    def prices(self):
        """A dict from each weir to its price."""
        return dict(self._prices)

    def rents(self):
        """A dict from each right to its rent."""
        return {name: rent(self._worths, self._prices, name) for name, _ in self._worths}


def _gate_prices(standing, worths):
    """A dict from each gate to what one cube more there would bring, as the basis stands."""
    rows = [[worths[column[1]] * figure for figure in standing.measure(column)[1:]]
            for column in standing.basis if column[0] == "right"]
    return {gate: sum([row[place] for row in rows]) for place, gate in enumerate(standing.table.gates)}


def _gains(rights, worths, prices):
    """A list of tuples (gain, column): what each column would bring less what it takes from the gates."""
    gains = [(-prices[gate], gate) for gate in prices]
    for name in rights.names:
        taken = prices[("call", name)] + sum([prices[("weir", weir)] for weir in rights.way(name)])
        gains.append((worths[name] - taken, ("right", name)))
    return gains


def _best_standing(day, worths):
    """The sound standing at which no column brings more than it takes."""
    standing = first_standing(Table(day))
    while True:
        gains = _gains(day.rights, worths, _gate_prices(standing, worths))
        # No column of the basis gains. Ties of levels are broken by the measures, so this comes to an end.
        gain, column = max(gains)
        if gain <= 0:
            return standing
        standing = standing.pivoted(column)[0]


def best(day, worths):
    """A sharing of most worth, with prices that show it."""
    standing = _best_standing(day, worths)
    prices = _gate_prices(standing, worths)
    sharing = Sharing(day.rights, {name: standing.level(("right", name)) for name in day.rights.names})
    return Best(worths, sharing, {weir: prices[("weir", weir)] for weir in day.rights.river.weirs})


def _price_flaw(day, sharing, prices):
    """The first weir whose price is wrong, as ("price", weir), or None."""
    for weir in day.rights.river.weirs:
        price = prices.get(weir, 0)
        if not is_natural(price) or (price > 0 and sharing.use(weir) != day.water(weir)):
            return "price", weir
    return None


def _right_flaw(day, worths, sharing, prices):
    """The first right that should have more, as ("short", name), or less, as ("over", name); or None."""
    for name, cubes in sharing:
        price = way_price(day.rights, prices, name)
        if cubes < day.call(name) and price < worths[name]:
            return "short", name
        if cubes > 0 and price > worths[name]:
            return "over", name
    return None


def flaw(day, worths, sharing, prices):
    """None if the prices show the sharing; otherwise the first thing that is wrong."""
    need_weirs(day.rights.river, prices)
    found = unfit(day, sharing)
    if found is None:
        found = _price_flaw(day, sharing, prices)
    if found is None:
        found = _right_flaw(day, worths, sharing, prices)
    return found


def _near(day, sharing):
    """A day of few cubes, and a sharing of most worth on it, from which it goes on as from this one.

    One cube more or less at a weir changes the cubes of each right by one at most, and only what is left at
    the weirs tells which changes fit. So the rights keep one cube at most, and may get one more. Few cubes
    also leave room for one more at a weir that has as many as a weir can have.
    """
    few = Sharing(day.rights, {name: min(1, cubes) for name, cubes in sharing})
    calls = {name: few[name] + min(1, day.call(name) - cubes) for name, cubes in sharing}
    most = len(day.rights) + 1
    waters = {weir: few.use(weir) + min(most, day.water(weir) - sharing.use(weir)) for weir in day.rights.river.weirs}
    return Day(day.rights, calls, waters), few


def price_range(day, worths, weir):
    """A tuple of the least and the greatest price of the weir, or None in the place of the greatest."""
    need_weir(day.rights.river, weir)
    near, few = _near(day, best(day, worths).sharing)
    value = worths.worth_of(few)
    water = near.water(weir)
    least = best(near.with_water(weir, water + 1), worths).value - value
    if day.water(weir) == 0:
        return least, None
    return least, value - best(near.with_water(weir, water - 1), worths).value
