"""The water walk: what comes to each weir, is taken there, runs by and is given back."""


def _given_back(sharing, weir):
    """The sum of the cubes that are given back behind the weir."""
    rights = sharing.rights
    return sum([sharing[name] for name in rights.end_at(weir) if rights.is_given_back(name)])


def water_walk(springs, sharing):
    """Yields (weir, comes, taken, runs, back) for each weir, each after all weirs above it."""
    river = springs.river
    onward = {}
    for weir in river.downward():
        comes = springs.spring(weir) + sum([onward[high] for high in river.above(weir)])
        taken = sum([sharing[name] for name in sharing.rights.begin_at(weir)])
        runs = comes - taken
        back = _given_back(sharing, weir)
        onward[weir] = runs + back
        yield weir, comes, taken, runs, back
