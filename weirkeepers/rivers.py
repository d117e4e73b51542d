"""Rivers: trees of weirs that run to the sea."""

from weirkeepers.checks import need_weir
from weirkeepers.errors import NotDown, NotRiver

SEA = "sea"
MOST_ROWS = 40
LONGEST_NAME = 8


def is_name(value):
    """True if the value is a string of 1 to 8 letters a to z."""
    if not isinstance(value, str):
        return False
    return 1 <= len(value) <= LONGEST_NAME and all(["a" <= letter <= "z" for letter in value])


def _is_row(entry):
    """True if the entry is a tuple of two names, the first of which a weir may have."""
    if not isinstance(entry, tuple) or len(entry) != 2:
        return False
    return is_name(entry[0]) and is_name(entry[1]) and entry[0] != SEA


def _need_rows(rows):
    """Raises NotRiver for the first entry that is wrong by itself or lies above nothing."""
    if not isinstance(rows, list) or not 1 <= len(rows) <= MOST_ROWS:
        raise NotRiver(-1)
    weirs = {}
    for place, entry in enumerate(rows):
        if not _is_row(entry) or entry[0] in weirs:
            raise NotRiver(place)
        weirs[entry[0]] = True
    for place, (_, low) in enumerate(rows):
        if low != SEA and low not in weirs:
            raise NotRiver(place)


def _course(below, weir):
    """The course of the weir; if it goes round, more weirs than the river has."""
    course = [weir]
    while below[course[-1]] != SEA and len(course) <= len(below):
        course.append(below[course[-1]])
    return tuple(course)


def _find_courses(below):
    """A dict from each weir to its course. Raises NotRiver for the first that does not reach the sea."""
    courses = {weir: _course(below, weir) for weir in below}
    for place, weir in enumerate(courses):
        if len(courses[weir]) > len(below):
            raise NotRiver(place)
    return courses


def _directly_above(below, low):
    """The tuple of the weirs that lie directly above this one, or above the sea."""
    return tuple([weir for weir in below if below[weir] == low])


def _find_upstream(courses, low):
    """The tuple of the weirs whose course passes this one."""
    return tuple([weir for weir in courses if low in courses[weir]])


def _order_by_depth(courses):
    """The tuple of the weirs, those of greater depth first."""
    rows = sorted([(-len(courses[weir]), place, weir) for place, weir in enumerate(courses)])
    return tuple([row[2] for row in rows])


class River:
    """A tree of weirs; its rows are tuples (weir, what lies directly below it)."""

    def __init__(self, rows):
        _need_rows(rows)
        self.weirs = tuple([row[0] for row in rows])
        self._rows = tuple(rows)
        self._below = {weir: low for weir, low in rows}
        self._courses = _find_courses(self._below)
        self._above = {low: _directly_above(self._below, low) for low in self.weirs + (SEA,)}
        self._upstream = {weir: _find_upstream(self._courses, weir) for weir in self.weirs}
        self._deepest_first = _order_by_depth(self._courses)

    def __eq__(self, other):
        return isinstance(other, River) and self._rows == other._rows

    def __len__(self):
        return len(self.weirs)

    def __iter__(self):
        return iter(self.weirs)

    def __contains__(self, x):
        return isinstance(x, str) and x in self._below

    def rows(self):
        """A list of the rows."""
        return list(self._rows)

    def below(self, weir):
        """The weir directly below this one, or "sea"."""
        need_weir(self, weir)
        return self._below[weir]

    def above(self, weir):
        """The tuple of the weirs directly above this one, or directly above the sea."""
        if weir != SEA:
            need_weir(self, weir)
        return self._above[weir]

    def course(self, weir):
        """The tuple of the weirs from this one down to the sea."""
        need_weir(self, weir)
        return self._courses[weir]

    def depth(self, weir):
        """The number of weirs in the course."""
        return len(self.course(weir))

    def upstream(self, weir):
        """The tuple of all weirs whose course passes this one, itself among them."""
        need_weir(self, weir)
        return self._upstream[weir]

    def is_down(self, high, low):
        """True if `low` is in the course of `high`."""
        need_weir(self, high)
        need_weir(self, low)
        return low in self._courses[high]

    def meeting(self, one, other):
        """The first weir that the courses of the two share, or "sea"."""
        need_weir(self, one)
        need_weir(self, other)
        for weir in self._courses[one]:
            if weir in self._courses[other]:
                return weir
        return SEA

    def way(self, intake, last):
        """The part of the course of the intake that ends with the last weir, or the whole one for "sea"."""
        need_weir(self, intake)
        course = self._courses[intake]
        if last == SEA:
            return course
        need_weir(self, last)
        if last not in course:
            raise NotDown(intake, last)
        return course[:course.index(last) + 1]

    def downward(self):
        """Yields each weir once, those of greater depth first, ties in the order of weirs."""
        for weir in self._deepest_first:
            yield weir
