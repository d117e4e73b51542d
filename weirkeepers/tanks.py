"""Tanks: in them rights that are not given back store the cubes that they get."""

from weirkeepers.checks import is_whole, need_right
from weirkeepers.errors import NotLedger, NotTanks

MOST_TANK = 10 ** 20


def _is_room(value):
    """True if the value is an integer from 1 to 10 ** 20."""
    return is_whole(value, MOST_TANK) and value > 0


class Tanks:
    """The rooms of the tanks of some rights."""

    def __init__(self, rights, rooms):
        for key in rooms:
            if key not in rights or rights.is_given_back(key) or not _is_room(rooms[key]):
                raise NotTanks(key)
        names = tuple([name for name in rights.names if name in rooms])
        self.rights = rights
        self.names = names
        self._rooms = {name: rooms[name] for name in names}

    def __eq__(self, other):
        return isinstance(other, Tanks) and self.rights == other.rights and self._rooms == other._rooms

    def __len__(self):
        return len(self._rooms)

    def __contains__(self, x):
        return isinstance(x, str) and x in self._rooms

    @staticmethod
    def none(rights):
        """No tanks."""
        return Tanks(rights, {})

    def room(self, name):
        """The room of the right's tank, 0 without one."""
        need_right(self.rights, name)
        return self._rooms.get(name, 0)

    def left(self, name, account, released=0):
        """The room that is left in the tank by the account, once so many cubes have been released."""
        need_right(self.rights, name)
        if name not in self._rooms:
            raise NotLedger(-1, "tank")
        return self._rooms[name] - account + released
