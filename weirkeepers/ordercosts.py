"""Order costs: what settled sharings are worth less than the best one."""

from weirkeepers.best import best
from weirkeepers.listing import settled_sharings


def order_cost(book, day, worths):
    """A tuple (least, cheap, greatest, dear) of costs and the first settled sharings that have them, or None."""
    sharings = list(settled_sharings(book, day))
    if not sharings:
        return None
    greatest_worth = best(day, worths).value
    costs = [greatest_worth - worths.worth_of(sharing) for sharing in sharings]
    least = min(costs)
    greatest = max(costs)
    return least, sharings[costs.index(least)], greatest, sharings[costs.index(greatest)]
