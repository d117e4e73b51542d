"""Lines: who goes ahead of whom, and rights that go round."""

from weirkeepers.checks import need_different
from weirkeepers.errors import NoRight
from weirkeepers.meetings import pairs


def line_pairs(rights, names):
    """The ahead list of a line: a tuple for each two rights that meet, the earlier one first."""
    need_different(rights, names)
    places = {name: place for place, name in enumerate(names)}
    for name in rights.names:
        if name not in places:
            raise NoRight(name)
    return [(one, other) if places[one] < places[other] else (other, one) for one, other, _ in pairs(rights)]


def _first_free(left, told):
    """The first of the rights that are left ahead of which none of them goes, or None."""
    for name in left:
        if not any([(other, name) in told for other in left]):
            return name
    return None


def _line(rights, told):
    """The line of the rights, as a list that ends early if there is none."""
    left = list(rights.names)
    line = []
    name = _first_free(left, told)
    while name is not None:
        left.remove(name)
        line.append(name)
        name = _first_free(left, told)
    return line


def turned(one, two, three, told):
    """The round of these three that starts with the first of them, or None."""
    if (one, two) in told and (two, three) in told and (three, one) in told:
        return one, two, three
    if (one, three) in told and (three, two) in told and (two, one) in told:
        return one, three, two
    return None


def _ring_at(names, told):
    """The first round of three of these rights, by their ascending places, or None."""
    for place, one in enumerate(names):
        for at in range(place + 1, len(names)):
            for three in names[at + 1:]:
                ring = turned(one, names[at], three, told)
                if ring is not None:
                    return ring
    return None


def _first_ring(rights, told):
    """("ring", weir, names) for the first round of three at the first weir that has one, or None."""
    for weir in rights.river.weirs:
        ring = _ring_at(rights.passing(weir), told)
        if ring is not None:
            return "ring", weir, ring
    return None


def line_up(rights, ahead):
    """("line", names) for a line of the ahead list, or ("ring", weir, names) for a round of three."""
    told = {pair: True for pair in ahead}
    line = _line(rights, told)
    # A line that ends early shows that some three go round.
    if len(line) < len(rights):
        return _first_ring(rights, told)
    return "line", tuple(line)


def _all_follow(names, told):
    """True if each name goes ahead of the next one, and the last ahead of the first."""
    return all([(name, names[place - len(names) + 1]) in told for place, name in enumerate(names)])


def goes_round(names, ahead):
    """True if the value is a round of the ahead list."""
    if not isinstance(names, tuple) or len(names) < 3:
        return False
    if not all([isinstance(name, str) for name in names]) or len(set(names)) < len(names):
        return False
    return _all_follow(names, {pair: True for pair in ahead})


def _deepest(rights, names):
    """The place in the round of the right whose last weir has the greatest depth, the first of several."""
    rows = [(-rights.river.depth(rights.last(name)), rights.names.index(name), place)
            for place, name in enumerate(names)]
    return min(rows)[2]


def _shrunk_once(rights, names, ahead):
    """The round to which a round of more than three rights shrinks."""
    place = _deepest(rights, names)
    before = names[place - 1]
    behind = names[place - len(names) + 1]
    if (before, behind) in ahead:
        return names[:place] + names[place + 1:]
    return before, names[place], behind


def shrunk(rights, names, ahead):
    """A list of rounds: the one that is passed, and each that it shrinks to, down to one of three."""
    need_different(rights, names)
    rounds = [names]
    while len(rounds[-1]) > 3:
        rounds.append(_shrunk_once(rights, rounds[-1], ahead))
    return rounds
