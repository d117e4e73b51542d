"""Rights: each takes water along a way downstream."""

from weirkeepers.checks import need_right, need_rights, need_weir
from weirkeepers.errors import NotRights
from weirkeepers.rivers import MOST_ROWS, SEA, is_name


def _is_row(river, entry):
    """True if the entry is a tuple of a name, a weir, and a weir or the sea."""
    if not isinstance(entry, tuple) or len(entry) != 3:
        return False
    return is_name(entry[0]) and entry[1] in river and (entry[2] == SEA or entry[2] in river)


def _need_rows(river, rows):
    """Raises NotRights as the rows of rights are wrong."""
    if not isinstance(rows, list) or len(rows) > MOST_ROWS:
        raise NotRights(-1)
    names = {}
    for place, entry in enumerate(rows):
        if not _is_row(river, entry) or entry[0] in names:
            raise NotRights(place)
        names[entry[0]] = True
    for place, (_, intake, last) in enumerate(rows):
        if last != SEA and not river.is_down(intake, last):
            raise NotRights(place)


class Rights:
    """The rights of a river; their rows are tuples (name, intake, last weir or "sea")."""

    def __init__(self, river, rows):
        _need_rows(river, rows)
        self.river = river
        self.names = tuple([row[0] for row in rows])
        self._rows = tuple(rows)
        self._ways = {name: river.way(intake, last) for name, intake, last in rows}
        self._lasts = {row[0]: row[2] for row in rows}
        self._passing = {weir: self._those_over(weir) for weir in river.weirs}

    def __eq__(self, other):
        return isinstance(other, Rights) and self.river == other.river and self._rows == other._rows

    def __len__(self):
        return len(self.names)

    def __iter__(self):
        return iter(self.names)

    def __contains__(self, x):
        return isinstance(x, str) and x in self._ways

    def _those_over(self, weir):
        """The tuple of the rights whose way has the weir."""
        return tuple([name for name in self.names if weir in self._ways[name]])

    def rows(self):
        """A list of the rows as they were passed."""
        return list(self._rows)

    def intake(self, name):
        """The weir where the way of the right begins."""
        need_right(self, name)
        return self._ways[name][0]

    def last(self, name):
        """The last weir of the way of the right, never "sea"."""
        need_right(self, name)
        return self._ways[name][-1]

    def is_given_back(self, name):
        """True if the right returns its water behind its last weir."""
        need_right(self, name)
        return self._lasts[name] != SEA

    def way(self, name):
        """The tuple of the weirs that the right passes, upstream first."""
        need_right(self, name)
        return self._ways[name]

    def passes(self, name, weir):
        """True if the weir is on the way of the right."""
        need_right(self, name)
        need_weir(self.river, weir)
        return weir in self._ways[name]

    def passing(self, weir):
        """The tuple of the rights that pass the weir."""
        need_weir(self.river, weir)
        return self._passing[weir]

    def begin_at(self, weir):
        """The tuple of the rights that have the weir as their intake."""
        need_weir(self.river, weir)
        return tuple([name for name in self.names if self._ways[name][0] == weir])

    def end_at(self, weir):
        """The tuple of the rights that have the weir as the last one of their way."""
        need_weir(self.river, weir)
        return tuple([name for name in self.names if self._ways[name][-1] == weir])

    def matrix(self):
        """A list for each weir, with 1 for each right that passes it and 0 for each other one."""
        return [[int(weir in self._ways[name]) for name in self.names] for weir in self.river.weirs]

    def only(self, *names):
        """New rights that have only the rows of these names, in the order of rights."""
        need_rights(self, names)
        return Rights(self.river, [row for row in self._rows if row[0] in names])

    def joined(self, row):
        """New rights with this row behind the others."""
        return Rights(self.river, self.rows() + [row])
