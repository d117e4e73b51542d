"""What all settled sharings of a day give for sure, and what some of them give."""

from weirkeepers.checks import need_rights
from weirkeepers.listing import settled_sharings
from weirkeepers.wheels import need_settled


def _least(rights, sharings):
    """A dict from every right to the least cubes that one of the sharings gives it."""
    return {name: min([sharing[name] for sharing in sharings]) for name in rights.names}


def _most(rights, sharings):
    """A dict from every right to the most cubes that one of the sharings gives it."""
    return {name: max([sharing[name] for sharing in sharings]) for name in rights.names}


def sure(book, day):
    """A dict from every right to its sure cubes, or None without a settled sharing."""
    sharings = list(settled_sharings(book, day))
    return _least(book.rights, sharings) if sharings else None


def possible(book, day):
    """A dict from every right to its possible cubes, or None without a settled sharing."""
    sharings = list(settled_sharings(book, day))
    return _most(book.rights, sharings) if sharings else None


def unsure(book, day):
    """The tuple of the rights whose sure and possible cubes differ."""
    sharings = list(settled_sharings(book, day))
    return tuple([name for name in book.rights.names
                  if any([sharing[name] != sharings[0][name] for sharing in sharings])])


def best_for(book, day, *names, least=False):
    """The first of the settled sharings with most cubes for the first name, of these for the second, and so on."""
    need_rights(book.rights, names)
    sharings = list(settled_sharings(book, day))
    if not sharings:
        return None
    for name in names:
        cubes = [sharing[name] for sharing in sharings]
        best = min(cubes) if least else max(cubes)
        sharings = [sharing for sharing in sharings if sharing[name] == best]
    return sharings[0]


def regrets(book, day, sharing):
    """A dict from every right to what it might have more in another settled sharing."""
    need_settled(book, day, sharing)
    most = possible(book, day)
    return {name: most[name] - sharing[name] for name in most}


def fairest(book, day):
    """The settled sharing whose greatest regrets are least, or None."""
    sharings = list(settled_sharings(book, day))
    if not sharings:
        return None
    most = _most(book.rights, sharings)
    rows = [(sorted([most[name] - sharing[name] for name in most], reverse=True), place)
            for place, sharing in enumerate(sharings)]
    return sharings[min(rows)[1]]


def sure_table(book, day):
    """A text with a line for each right: its name, its sure and its possible cubes; "none" if there are none."""
    sharings = list(settled_sharings(book, day))
    if not sharings:
        return "none"
    least = _least(book.rights, sharings)
    most = _most(book.rights, sharings)
    return "\n".join([f"{name:<8} {least[name]:>31} {most[name]:>31}" for name in book.rights.names])
