"""The checks that several files share."""

from weirkeepers.errors import NoRight, NoWeir

MOST_CUBES = 10 ** 30
LONGEST_NUMERAL = 31


def is_natural(value):
    """True if the value is an integer from 0; True and False are none."""
    return isinstance(value, int) and not isinstance(value, bool) and value >= 0


def is_whole(value, most):
    """True if the value is an integer from 0 to `most`."""
    return is_natural(value) and value <= most


def is_cubes(value):
    """True if the value is a number of cubes."""
    return is_whole(value, MOST_CUBES)


def is_numeral(word):
    """True if the word is "0", or 1 to 31 digits without a leading zero."""
    if not 1 <= len(word) <= LONGEST_NUMERAL or not all(["0" <= digit <= "9" for digit in word]):
        return False
    return word == "0" or word[0] != "0"


def need_weir(river, weir):
    """Raises NoWeir if the river has no such weir."""
    if weir not in river:
        raise NoWeir(weir)


def need_weirs(river, weirs):
    """Raises NoWeir for the first of the weirs that is none."""
    for weir in weirs:
        need_weir(river, weir)


def need_right(rights, name):
    """Raises NoRight if there is no such right."""
    if name not in rights:
        raise NoRight(name)


def need_rights(rights, names):
    """Raises NoRight for the first of the names that is no right."""
    for name in names:
        need_right(rights, name)


def need_different(rights, names):
    """Raises NoRight for the first of the names that is no right or occurs earlier."""
    seen = {}
    for name in names:
        # Only a right is looked up: another value may be a list, which can be no key.
        if name not in rights or name in seen:
            raise NoRight(name)
        seen[name] = True
