"""Halves: sets of rights, sets of weirs and cubes are split evenly."""

from weirkeepers.checks import need_different
from weirkeepers.errors import NoRight, NoWeir


def _links(rights, names):
    """Each right as a link (intake, what lies below its last weir), and fillers behind them.

    A filler passes one weir alone, at which without it an odd number of links would pass.
    With the fillers an even number of links ends at each weir and at the sea.
    """
    river = rights.river
    links = [(rights.intake(name), river.below(rights.last(name))) for name in names]
    for weir in river.weirs:
        if len([name for name in names if rights.passes(name, weir)]) % 2 == 1:
            links.append((weir, river.below(weir)))
    return links


def _next_link(links, gone, spot):
    """The place of the first link that is not gone and has the spot as an end, or None."""
    for place, link in enumerate(links):
        if place not in gone and spot in link:
            return place
    return None


def _gone_downstream(links):
    """A dict from the place of each link to True if it is gone from its intake.

    The links are gone along closed trails, so at each spot as many are gone into it as out
    of it. So at each weir as many of those that pass it are gone downstream as upstream.
    """
    gone = {}
    for link in links:
        spot = link[0]
        place = _next_link(links, gone, spot)
        while place is not None:
            high, low = links[place]
            gone[place] = high == spot
            spot = low if gone[place] else high
            place = _next_link(links, gone, spot)
    return gone


def halves(rights, names):
    """A tuple of two tuples of the names, split so that at each weir their numbers differ by at most one."""
    need_different(rights, names)
    ordered = [name for name in rights.names if name in names]
    gone = _gone_downstream(_links(rights, ordered))
    one = tuple([name for place, name in enumerate(ordered) if gone[place]])
    other = tuple([name for place, name in enumerate(ordered) if not gone[place]])
    return one, other


def _is_even(river, weirs, weir):
    """True if the number of other weirs of the list in the course of this one is even."""
    return len([low for low in river.course(weir)[1:] if low in weirs]) % 2 == 0


def weir_halves(river, weirs):
    """A tuple of two tuples of the weirs, split so that on each way their numbers differ by at most one."""
    chosen = {}
    for weir in weirs:
        if weir not in river or weir in chosen:
            raise NoWeir(weir)
        chosen[weir] = True
    ordered = [weir for weir in river.weirs if weir in chosen]
    one = tuple([weir for weir in ordered if _is_even(river, chosen, weir)])
    other = tuple([weir for weir in ordered if not _is_even(river, chosen, weir)])
    return one, other


def _halved(rights, cubes):
    """A list of two dicts that halve the cubes of each right and the sum at each weir."""
    odd = [name for name in rights.names if cubes[name] % 2 == 1]
    one, other = halves(rights, odd)
    return [{name: cubes[name] // 2 + int(name in more) for name in rights.names} for more in (one, other)]


def spread(rights, cubes, *, halvings=1):
    """A list of dicts, 2 to the power of `halvings`, that spread the cubes evenly."""
    unknown = sorted([name for name in cubes if name not in rights])
    if unknown:
        raise NoRight(unknown[0])
    parts = [{name: cubes.get(name, 0) for name in rights.names}]
    for _ in range(halvings):
        parts = [half for part in parts for half in _halved(rights, part)]
    return parts
