"""Days: what the rights call for, and what the weirs may hand out."""

from weirkeepers.checks import MOST_CUBES, is_cubes, need_right, need_rights, need_weir
from weirkeepers.errors import NotDay


def _need_cubes(known, cubes):
    """Raises NotDay for the first key that is not known or whose value is no cubes."""
    for key in cubes:
        if key not in known or not is_cubes(cubes[key]):
            raise NotDay(key)


class Day:
    """A call for each right and a water for each weir."""

    def __init__(self, rights, calls, waters, *, call=0, water=0):
        if not is_cubes(call) or not is_cubes(water):
            raise NotDay(None)
        _need_cubes(rights, calls)
        _need_cubes(rights.river, waters)
        self.rights = rights
        self._calls = {name: calls.get(name, call) for name in rights.names}
        self._waters = {weir: waters.get(weir, water) for weir in rights.river.weirs}

    def __eq__(self, other):
        if not isinstance(other, Day):
            return False
        return self.rights == other.rights and self._calls == other._calls and self._waters == other._waters

    @classmethod
    def of(cls, rights, calls, springs):
        """The day with these calls and the waters of the springs."""
        return cls(rights, calls, springs.waters())

    def call(self, name):
        """What the right calls for."""
        need_right(self.rights, name)
        return self._calls[name]

    def water(self, weir):
        """What the weir may hand out."""
        need_weir(self.rights.river, weir)
        return self._waters[weir]

    def calls(self):
        """A dict from each right to its call."""
        return dict(self._calls)

    def waters(self):
        """A dict from each weir to its water."""
        return dict(self._waters)

    def within(self, other):
        """True if no call and no water is greater than on the other day."""
        calls = other.calls()
        waters = other.waters()
        if any([self._calls[name] > calls[name] for name in self.rights.names]):
            return False
        return all([self._waters[weir] <= waters[weir] for weir in self.rights.river.weirs])

    def with_call(self, name, cubes):
        """A new day on which the right calls for so many cubes."""
        need_right(self.rights, name)
        calls = self.calls()
        calls[name] = cubes
        return Day(self.rights, calls, self._waters)

    def with_water(self, weir, cubes):
        """A new day on which the weir may hand out so many cubes."""
        need_weir(self.rights.river, weir)
        waters = self.waters()
        waters[weir] = cubes
        return Day(self.rights, self._calls, waters)

    def only(self, *names):
        """A new day on which all other rights call for 0."""
        need_rights(self.rights, names)
        return Day(self.rights, {name: self._calls[name] for name in names}, self._waters)

    def rained(self, weir, cubes):
        """A new day with so many cubes more at each weir of the course."""
        return self._raised(self.rights.river.course(weir), cubes)

    def widened(self, weir, cubes):
        """A new day with so many cubes more at this weir alone."""
        need_weir(self.rights.river, weir)
        return self._raised((weir,), cubes)

    def _raised(self, weirs, cubes):
        """A new day with so many cubes more at each of these weirs."""
        if not is_cubes(cubes):
            raise NotDay(weirs[0])
        waters = self.waters()
        for weir in weirs:
            if waters[weir] + cubes > MOST_CUBES:
                raise NotDay(weir)
            waters[weir] = waters[weir] + cubes
        return Day(self.rights, self._calls, waters)
