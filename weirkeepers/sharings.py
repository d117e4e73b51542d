"""Sharings: the cubes that each right gets."""

from weirkeepers.checks import is_cubes, need_right
from weirkeepers.errors import NotSharing


class Sharing:
    """A number of cubes for each right."""

    def __init__(self, rights, cubes):
        for key in cubes:
            if key not in rights or not is_cubes(cubes[key]):
                raise NotSharing(key)
        self.rights = rights
        self._cubes = {name: cubes.get(name, 0) for name in rights.names}

    def __eq__(self, other):
        return isinstance(other, Sharing) and self.rights == other.rights and self._cubes == other._cubes

    def __len__(self):
        return len(self._cubes)

    def __iter__(self):
        return iter(self._cubes.items())

    def __getitem__(self, at):
        need_right(self.rights, at)
        return self._cubes[at]

    def __add__(self, other):
        if not isinstance(other, Sharing):
            return NotImplemented
        return Sharing(self.rights, {name: self._cubes[name] + other._cubes[name] for name in self.rights.names})

    @property
    def total(self):
        """The sum of all cubes."""
        return sum(self._cubes.values())

    def use(self, weir):
        """The sum of the cubes of all rights that pass the weir."""
        return sum([self._cubes[name] for name in self.rights.passing(weir)])

    def cubes(self):
        """A dict from each right to its cubes."""
        return dict(self._cubes)

    def lacking(self, day):
        """The tuple of the rights that have less than their call."""
        return tuple([name for name in self.rights.names if self._cubes[name] < day.call(name)])

    def full(self, day):
        """The tuple of the weirs whose use equals their water."""
        return tuple([weir for weir in self.rights.river.weirs if self.use(weir) == day.water(weir)])

    def within(self, other):
        """True if no right has more than in the other sharing."""
        cubes = other.cubes()
        return all([self._cubes[name] <= cubes[name] for name in self.rights.names])


def unfit(day, sharing):
    """The first right with more than its call, or else the first weir that is used too much, or None."""
    for name in day.rights.names:
        if sharing[name] > day.call(name):
            return "call", name
    for weir in day.rights.river.weirs:
        if sharing.use(weir) > day.water(weir):
            return "weir", weir
    return None


def fits(day, sharing):
    """True if no right has more than its call and no use is greater than the weir's water."""
    return unfit(day, sharing) is None
