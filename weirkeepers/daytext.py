"""Days as texts."""

from weirkeepers.checks import MOST_CUBES, is_numeral
from weirkeepers.days import Day
from weirkeepers.errors import NotText


def _is_line(rights, told, words):
    """True if the words are those of a line of a day, behind the lines that are told."""
    if len(words) != 3 or words[0] not in told:
        return False
    names = rights.names if words[0] == "call" else rights.river.weirs
    if words[1] not in names or words[1] in told[words[0]]:
        return False
    return is_numeral(words[2]) and int(words[2]) <= MOST_CUBES


def read_day(rights, text):
    """The day that a text tells; what it leaves out has 0."""
    told = {"call": {}, "water": {}}
    for number, line in enumerate(text.split("\n")):
        words = line.split(" ")
        if not _is_line(rights, told, words):
            raise NotText(number)
        told[words[0]][words[1]] = int(words[2])
    return Day(rights, told["call"], told["water"])


def write_day(day):
    """The text of a day: the lines of all rights, then of all weirs."""
    calls = day.calls()
    waters = day.waters()
    lines = [f"call {name} {calls[name]}" for name in calls]
    lines.extend([f"water {weir} {waters[weir]}" for weir in waters])
    return "\n".join(lines)
