"""Which rights an entry can touch, in books of the first kind and years without pledges."""

from weirkeepers.checks import need_right, need_rights
from weirkeepers.entries import entry_of
from weirkeepers.errors import NotLedger
from weirkeepers.gauges import need_subject
from weirkeepers.keepers import heeded
from weirkeepers.meetings import meet
from weirkeepers.verdict import need_first

# More than any tank can take, and far less than an amount can be at a weir below all others.
PLENTY = 10 ** 21


def _behind(book):
    """A dict from each right to the list of those that meet it and that it goes ahead of."""
    names = book.rights.names
    heeds = {name: heeded(book, name) for name in names}
    return {name: [other for other in names if name in heeds[other]] for name in names}


def _chains(book, names):
    """A dict from each right in the reach of these to its chain, the first of the shortest ones."""
    behind = _behind(book)
    chains = {name: (name,) for name in book.rights.names if name in names}
    news = list(chains.values())
    while news:
        # These ascend as the chains that they go on from ascend, and so do the rights behind each one.
        longer = [row + (other,) for row in news for other in behind[row[-1]]]
        news = []
        for row in longer:
            if row[-1] not in chains:
                chains[row[-1]] = row
                news.append(row)
    return chains


def _reach(book, names):
    """The tuple of the rights in the reach of these."""
    chains = _chains(book, names)
    return tuple([name for name in book.rights.names if name in chains])


def reach(book, names):
    """The tuple of these rights and all at which a chain from one of them ends."""
    need_first(book)
    need_rights(book.rights, names)
    return _reach(book, names)


def chain(book, names, other):
    """A shortest chain from one of the names to the other right, the first of several, or None."""
    need_first(book)
    need_rights(book.rights, names)
    need_right(book.rights, other)
    return _chains(book, names).get(other)


def _passing_one(rights, weirs):
    """The tuple of the rights that pass one of these weirs."""
    return tuple([name for name in rights.names if any([rights.passes(name, weir) for weir in weirs])])


def _weirs_moved(rights, kind, name):
    """The tuple of the weirs whose water an entry that is no call changes."""
    if kind == "fish":
        return (name,)
    return rights.river.course(name if kind == "spring" else rights.intake(name))


def moved_at_once(tanks, kind, name):
    """The tuple of the rights that an entry of this kind and name moves at once."""
    rights = tanks.rights
    need_subject(rights, kind, name)
    if kind == "release" and name not in tanks:
        raise NotLedger(-1, "tank")
    return (name,) if kind == "call" else _passing_one(rights, _weirs_moved(rights, kind, name))


class Touch:
    """The rights that an entry can touch on its day, and on later ones."""

    def __init__(self, today, later):
        self.today = today
        self.later = later

    def __eq__(self, other):
        return isinstance(other, Touch) and self.today == other.today and self.later == other.later


def touched(book, tanks, kind, name):
    """The rights that an entry of this kind and name can touch."""
    need_first(book)
    if tanks.rights != book.rights:
        raise NotLedger(-1, "tanks")
    today = _reach(book, moved_at_once(tanks, kind, name))
    later = today if kind == "fish" else _reach(book, [other for other in today if other in tanks])
    return Touch(today, later)


class Paper:
    """Entries of a year, and one of them with its correction, which changes the cubes of a right on a day."""

    def __init__(self, entries, entry, correction, day):
        self.entries = list(entries)
        self.entry = entry
        self.correction = correction
        self.day = day


def _natural(river, weir):
    """The natural flow of the weir where every spring gives plenty."""
    return PLENTY * len(river.upstream(weir))


def _scene(rights, day, row, most, dry):
    """A list of entries for a day on which a change of the cubes of the first right goes down the chain.

    The first right calls for `most` cubes, every other one of the chain for 1. At the first weir that two
    neighbours pass there are just the cubes that the first of them calls for; nobody else of the chain passes
    it. The dry weir, if there is one, has none. Elsewhere water abounds.
    """
    river = rights.river
    calls = {name: 1 for name in row}
    calls[row[0]] = most
    waters = {meet(rights, one, other)[0]: calls[one] for one, other in zip(row, row[1:])}
    if dry is not None:
        waters[dry] = 0
    entries = [entry_of("spring", day, day, 0, weir, PLENTY) for weir in river.weirs]
    for weir in river.weirs:
        natural = _natural(river, weir)
        entries.append(entry_of("fish", day, day, 0, weir, natural - waters.get(weir, natural)))
    entries.extend([entry_of("call", day, day, 0, name, calls[name]) for name in row])
    return entries


def _dry_weir(rights, kind, name, first):
    """The weir that the entry gives its one cube, for the first right of a chain; None for a call."""
    if kind == "call":
        return None
    return [weir for weir in _weirs_moved(rights, kind, name) if rights.passes(first, weir)][0]


def _amounts(river, kind, name):
    """The amounts of the entry and its correction: the one gives a cube more to a weir or a right than the other."""
    if kind == "fish":
        return _natural(river, name) - 1, _natural(river, name)
    if kind == "spring":
        return PLENTY, PLENTY + 1
    return 0, 1


def _scene_today(book, tanks, kind, name, other, day):
    """A list of entries for a day on which the change goes from a right that is moved at once to the other one."""
    row = _chains(book, moved_at_once(tanks, kind, name))[other]
    return _scene(book.rights, day, row, 1, _dry_weir(book.rights, kind, name, row[0]))


def _scenes_later(book, tanks, kind, name, other):
    """A list of entries for two days: on the first an account changes, and by it a call on the second."""
    today = touched(book, tanks, kind, name).today
    row = _chains(book, [owner for owner in today if owner in tanks])[other]
    room = tanks.room(row[0])
    if kind == "release" and row[0] == name:
        # The release itself changes the account; cubes that the right got from it would make up for it.
        return _scene(book.rights, 1, row, room + 1, None)
    return _scene_today(book, tanks, kind, name, row[0], 0) + _scene(book.rights, 1, row, room, None)


def _is_told(entry, kind, name):
    """True if the entry is one of this kind and name."""
    return entry.KIND == kind and entry.name == name


def touch_paper(book, tanks, kind, name, other, *, later=False):
    """A paper that shows how an entry of this kind and name touches the other right, or None if it does not."""
    touch = touched(book, tanks, kind, name)
    need_right(book.rights, other)
    if other not in (touch.later if later else touch.today):
        return None
    day = int(later)
    # A fish order is in force on the second day as on the first.
    if later and kind != "fish":
        entries = _scenes_later(book, tanks, kind, name, other)
    else:
        entries = _scene_today(book, tanks, kind, name, other, day)
    others = [entry for entry in entries if not _is_told(entry, kind, name) or (entry.day == 1 and kind != "fish")]
    one, two = _amounts(book.river, kind, name)
    return Paper(others, entry_of(kind, 0, 0, 0, name, one), entry_of(kind, 0, 2, 0, name, two), day)
