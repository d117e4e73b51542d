"""Springs: where the water of a river comes from."""

from weirkeepers.checks import is_cubes, is_whole, need_weir
from weirkeepers.errors import NotSprings

MOST_FLOW = 10 ** 32


def _need_flows(river, flows):
    """Raises NotSprings for the first key that is no weir or has no spring or fish water."""
    for key in flows:
        if key not in river or not is_whole(flows[key], MOST_FLOW):
            raise NotSprings(key)


def _filled(river, flows):
    """A dict from each weir, in order, to its value, 0 where left out."""
    return {weir: flows.get(weir, 0) for weir in river.weirs}


def _natural(river, springs, weir):
    """The sum of the springs of the weir and of all weirs above it."""
    return sum([springs[high] for high in river.upstream(weir)])


class Springs:
    """The springs and the fish waters of a river."""

    def __init__(self, river, springs, fish):
        _need_flows(river, springs)
        _need_flows(river, fish)
        filled = _filled(river, springs)
        self.river = river
        self._springs = filled
        self._fish = _filled(river, fish)
        self._naturals = {weir: _natural(river, filled, weir) for weir in river.weirs}

    def __eq__(self, other):
        if not isinstance(other, Springs):
            return False
        return self.river == other.river and self._springs == other._springs and self._fish == other._fish

    def __add__(self, other):
        if not isinstance(other, Springs):
            return NotImplemented
        springs = {weir: self._springs[weir] + other._springs[weir] for weir in self.river.weirs}
        fish = {weir: self._fish[weir] + other._fish[weir] for weir in self.river.weirs}
        return Springs(self.river, springs, fish)

    def spring(self, weir):
        """What the spring at the weir gives."""
        need_weir(self.river, weir)
        return self._springs[weir]

    def fish(self, weir):
        """What must run by the weir."""
        need_weir(self.river, weir)
        return self._fish[weir]

    def natural(self, weir):
        """The natural flow of the weir."""
        need_weir(self.river, weir)
        return self._naturals[weir]

    def water(self, weir):
        """What the weir may hand out: the natural flow less the fish water, or 0."""
        need_weir(self.river, weir)
        return max(0, self._naturals[weir] - self._fish[weir])

    def short(self):
        """The tuple of the weirs whose natural flow is less than their fish water."""
        return tuple([weir for weir in self.river.weirs if self._naturals[weir] < self._fish[weir]])

    def waters(self):
        """A dict from each weir to its water."""
        return {weir: self.water(weir) for weir in self.river.weirs}


def springs_for(river, waters):
    """Springs and fish waters that give the weirs just these waters."""
    for key in waters:
        if key not in river or not is_cubes(waters[key]):
            raise NotSprings(key)
    springs = {}
    fish = {}
    naturals = {}
    for weir in river.downward():
        comes = sum([naturals[high] for high in river.above(weir)])
        wanted = waters.get(weir, 0)
        naturals[weir] = max(wanted, comes)
        springs[weir] = naturals[weir] - comes
        fish[weir] = naturals[weir] - wanted
    return Springs(river, springs, fish)
