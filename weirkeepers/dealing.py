"""Dealing: one right after another takes what is left."""

from weirkeepers.checks import need_different
from weirkeepers.sharings import Sharing
from weirkeepers.verdict import need_first


def deal(day, line):
    """The sharing in which each right, in the order of the line, gets what it calls for and what is left."""
    need_different(day.rights, line)
    left = day.waters()
    cubes = {}
    for name in line:
        way = day.rights.way(name)
        cubes[name] = min([day.call(name)] + [left[weir] for weir in way])
        for weir in way:
            left[weir] = left[weir] - cubes[name]
    return Sharing(day.rights, cubes)


def first_sharing(book, day):
    """The settled sharing of a book of the first kind."""
    return deal(day, need_first(book))
