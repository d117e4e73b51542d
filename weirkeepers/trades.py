"""Trades: some rights get one cube more, some others one less."""

from weirkeepers.best import best
from weirkeepers.checks import need_rights
from weirkeepers.errors import NotSharing
from weirkeepers.sharings import Sharing, fits


def _in_order(rights, names):
    """The tuple of these rights in the order of rights."""
    return tuple([name for name in rights.names if name in names])


class Trade:
    """One cube more for each of the plus rights, and one less for each of the minus rights."""

    def __init__(self, rights, plus, minus):
        names = list(plus) + list(minus)
        need_rights(rights, names)
        for place, name in enumerate(names):
            if name in names[:place]:
                raise NotSharing(name)
        if not names:
            raise NotSharing(None)
        self.rights = rights
        self.plus = _in_order(rights, plus)
        self.minus = _in_order(rights, minus)

    def __eq__(self, other):
        if not isinstance(other, Trade):
            return False
        return self.rights == other.rights and self.plus == other.plus and self.minus == other.minus

    def change(self, weir):
        """By how much the use of the weir grows."""
        passing = self.rights.passing(weir)
        return len([name for name in self.plus if name in passing]) - len(
            [name for name in self.minus if name in passing])

    def is_simple(self):
        """True if no use changes by more than one cube."""
        return all([-1 <= self.change(weir) <= 1 for weir in self.rights.river.weirs])

    def gain(self, worths):
        """By how much the worth grows."""
        return sum([worths[name] for name in self.plus]) - sum([worths[name] for name in self.minus])

    def most(self, day, sharing):
        """How many times at most the trade fits a sharing that fits."""
        rooms = [day.call(name) - sharing[name] for name in self.plus]
        rooms.extend([sharing[name] for name in self.minus])
        for weir in self.rights.river.weirs:
            change = self.change(weir)
            if change > 0:
                rooms.append((day.water(weir) - sharing.use(weir)) // change)
        return min(rooms)

    def done(self, sharing, times):
        """A new sharing, after the trade has been done so many times."""
        cubes = sharing.cubes()
        for name in self.plus:
            cubes[name] = cubes[name] + times
        for name in self.minus:
            cubes[name] = cubes[name] - times
        return Sharing(self.rights, cubes)

    def back(self):
        """The trade that undoes this one."""
        return Trade(self.rights, self.minus, self.plus)


def _arcs(one, other):
    """A list of arcs (from, to, cubes, plus names, minus names) on which the difference of two sharings flows.

    A right that has more flows from its intake to what lies below its last weir, and one that has less flows
    back. A weir that is used more flows up from what lies below it, and one that is used less flows down. So
    at each weir and at the sea as many cubes come as go.
    """
    rights = one.rights
    arcs = []
    for name in rights.names:
        high = rights.intake(name)
        low = rights.river.below(rights.last(name))
        arcs.append((high, low, other[name] - one[name], (name,), ()))
        arcs.append((low, high, one[name] - other[name], (), (name,)))
    for weir, low in rights.river.rows():
        arcs.append((low, weir, other.use(weir) - one.use(weir), (), ()))
        arcs.append((weir, low, one.use(weir) - other.use(weir), (), ()))
    return [arc for arc in arcs if arc[2] > 0]


def _next_arc(arcs, left, spot):
    """The place of the first arc from the spot on which cubes are left."""
    return [place for place, arc in enumerate(arcs) if arc[0] == spot and left[place] > 0][0]


def _cycle(arcs, left):
    """A list of the places of arcs on which cubes are left that lead from a spot back to it, to none twice."""
    spot = [arc[0] for place, arc in enumerate(arcs) if left[place] > 0][0]
    spots = []
    path = []
    while spot not in spots:
        spots.append(spot)
        path.append(_next_arc(arcs, left, spot))
        spot = arcs[path[-1]][1]
    return path[spots.index(spot):]


def steps(one, other):
    """A list of tuples (times, trade) that lead from the one sharing to the other; each trade is simple."""
    arcs = _arcs(one, other)
    left = [arc[2] for arc in arcs]
    made = []
    # A cycle takes all cubes of one arc at least, so there are no more of them than arcs.
    while any(left):
        cycle = _cycle(arcs, left)
        times = min([left[place] for place in cycle])
        for place in cycle:
            left[place] = left[place] - times
        plus = [name for place in cycle for name in arcs[place][3]]
        minus = [name for place in cycle for name in arcs[place][4]]
        made.append((times, Trade(one.rights, plus, minus)))
    return made


def trade(day, worths, sharing):
    """A simple trade that fits the sharing once and has a gain, or None if the sharing is of most worth."""
    if not fits(day, sharing):
        raise NotSharing(None)
    for _, found in steps(sharing, best(day, worths).sharing):
        if found.gain(worths) > 0:
            return found
    return None
