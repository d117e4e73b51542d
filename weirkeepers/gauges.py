"""Gauges: a collection of entries, and which of them stand."""

from weirkeepers.checks import need_right, need_weir
from weirkeepers.entries import MOST_DAY, Entry
from weirkeepers.errors import NotEntry, NotLedger
from weirkeepers.springs import Springs

WEIR_KINDS = ("spring", "fish")
RIGHT_KINDS = ("call", "release")
PLEDGE = "pledge"
BOOK_ORDER = ("spring", "fish", "call", "release", "pledge")


def need_subject(rights, kind, name):
    """Raises an error if the value is no kind with an amount, or it has no weir or right of this name."""
    if kind in WEIR_KINDS:
        need_weir(rights.river, name)
    elif kind in RIGHT_KINDS:
        need_right(rights, name)
    else:
        raise NotEntry("kind")


def _rights_named(entry):
    """The tuple of the rights that the entry names."""
    if entry.KIND == PLEDGE:
        return entry.giver, entry.taker
    return (entry.name,) if entry.KIND in RIGHT_KINDS else ()


def _weirs_named(entry):
    """The tuple of the weirs that the entry names."""
    if entry.KIND == PLEDGE:
        return () if entry.weir is None else (entry.weir,)
    return (entry.name,) if entry.KIND in WEIR_KINDS else ()


def _cause(tanks, entry, days):
    """Why the value cannot be told in a year of so many days, or None."""
    if not isinstance(entry, Entry):
        return "entry"
    if entry.day >= days:
        return "day"
    if not all([name in tanks.rights for name in _rights_named(entry)]):
        return "right"
    if not all([weir in tanks.rights.river for weir in _weirs_named(entry)]):
        return "weir"
    return "tank" if entry.KIND == "release" and entry.name not in tanks else None


def need_entries(tanks, entries, days):
    """Raises NotLedger for the first value that cannot be told in a year of so many days."""
    for place, entry in enumerate(entries):
        cause = _cause(tanks, entry, days)
        if cause is not None:
            raise NotLedger(place, cause)


def _places(rights, entry):
    """The tuple of the places of the rights and the weir that the entry names; no weir is before all weirs."""
    rows = tuple([rights.names.index(name) for name in _rights_named(entry)])
    weirs = tuple([rights.river.weirs.index(weir) for weir in _weirs_named(entry)])
    return rows + (weirs if weirs else (-1,))


def _key(rights, entry):
    """What tells the entry from all others; entries in book order have ascending keys."""
    amounts = () if entry.KIND == PLEDGE else (entry.amount,)
    places = _places(rights, entry)
    return (entry.day, BOOK_ORDER.index(entry.KIND)) + places + (entry.known, entry.number) + amounts


def _told_of(entries):
    """A dict from each kind and name to the list of the entries that have them, in the same order."""
    told = {}
    for entry in entries:
        if entry.KIND != PLEDGE:
            told.setdefault((entry.KIND, entry.name), []).append(entry)
    return told


def _is_known(entry, known):
    """True if the entry is known by this day, or the day is None."""
    return known is None or entry.known <= known


class Gauges:
    """A collection of entries; equal ones count once."""

    def __init__(self, tanks, *entries):
        self.tanks = tanks
        self._rows = {}
        self._entries = []
        self._told = {}
        self.tell(*entries)

    def __eq__(self, other):
        return isinstance(other, Gauges) and self.tanks == other.tanks and self._entries == other._entries

    def __len__(self):
        return len(self._entries)

    def __iter__(self):
        return iter(self._entries)

    def __contains__(self, x):
        return isinstance(x, Entry) and x in self._entries

    def tell(self, *entries):
        """Adds entries; returns how many were not there already."""
        need_entries(self.tanks, entries, MOST_DAY + 1)
        before = len(self._rows)
        for entry in entries:
            self._rows[_key(self.tanks.rights, entry)] = entry
        self._entries = [self._rows[key] for key in sorted(self._rows)]
        self._told = _told_of(self._entries)
        return len(self._rows) - before

    def standing(self, kind, name, day, known=None):
        """The entry of the kind and the name that stands on the day, as known by some day, or None."""
        need_subject(self.tanks.rights, kind, name)
        entries = [entry for entry in self._told.get((kind, name), []) if _is_known(entry, known)]
        # A fish order stays in force; every other entry is for its day alone.
        found = [entry for entry in entries if entry.day == day or (kind == "fish" and entry.day < day)]
        # In book order the one of the latest day comes last, and of these the one known last.
        return found[-1] if found else None

    def amount_of(self, kind, name, day, known=None):
        """The amount of the entry that stands, or 0."""
        entry = self.standing(kind, name, day, known)
        return 0 if entry is None else entry.amount

    def _spring_at(self, weir, day, known):
        """What the spring gives, and what is released from the tanks of the rights that begin at the weir."""
        released = [self.amount_of("release", name, day, known) for name in self.tanks.rights.begin_at(weir)]
        return self.amount_of("spring", weir, day, known) + sum(released)

    def springs_on(self, day, known=None):
        """The springs and fish waters of the day."""
        river = self.tanks.rights.river
        springs = {weir: self._spring_at(weir, day, known) for weir in river.weirs}
        return Springs(river, springs, {weir: self.amount_of("fish", weir, day, known) for weir in river.weirs})

    def pledges(self, day, known=None):
        """The list of the pledges of this and earlier days, in the order in which they are tried."""
        rights = self.tanks.rights
        found = [entry for entry in self._entries
                 if entry.KIND == PLEDGE and entry.day <= day and _is_known(entry, known)]
        rows = sorted([((entry.known, entry.number) + _places(rights, entry), entry.day, place)
                       for place, entry in enumerate(found)])
        return [found[row[2]] for row in rows]

    def knowns(self):
        """The tuple of the days on which some entry was known, ascending."""
        return tuple(sorted(set([entry.known for entry in self._entries])))

    def merged(self, *others):
        """A new collection with the entries of all."""
        for place, other in enumerate(others):
            if other.tanks != self.tanks:
                raise NotLedger(place, "tanks")
        entries = self._entries + [entry for other in others for entry in other]
        return Gauges(self.tanks, *entries)
