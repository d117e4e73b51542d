"""Charts: rivers and rights as texts."""

from weirkeepers.errors import NotText
from weirkeepers.rights import Rights
from weirkeepers.rivers import River, is_name

WORDS = {"weir": 3, "right": 4}
WIDTH = 8


def _is_written(words):
    """True if the words are those of a line of a chart."""
    if WORDS.get(words[0], 0) != len(words):
        return False
    return all([is_name(word) for word in words[1:]])


def read_chart(text):
    """The rights that a chart tells."""
    rows = {"weir": [], "right": []}
    for number, line in enumerate(text.split("\n")):
        words = line.split(" ")
        if not _is_written(words):
            raise NotText(number)
        rows[words[0]].append(tuple(words[1:]))
    return Rights(River(rows["weir"]), rows["right"])


def write_chart(rights):
    """The chart of the rights and their river."""
    lines = [f"weir {weir} {low}" for weir, low in rights.river.rows()]
    lines.extend([f"right {name} {intake} {last}" for name, intake, last in rights.rows()])
    return "\n".join(lines)


def _mark(rights, name, weir):
    """What a chart table says of a right at a weir."""
    begins = rights.intake(name) == weir
    ends = rights.last(name) == weir
    if begins and ends:
        return "both"
    if begins:
        return "in"
    if ends:
        return "out"
    return "by" if rights.passes(name, weir) else "-"


def _table_line(head, cells):
    """One line of a table: the head and the cells, each in its column."""
    return head.ljust(WIDTH) + "".join([f" {cell.rjust(WIDTH)}" for cell in cells])


def chart_table(rights):
    """A text with a line for each right and a column for each weir."""
    weirs = rights.river.weirs
    lines = [_table_line("", weirs)]
    for name in rights.names:
        lines.append(_table_line(name, [_mark(rights, name, weir) for weir in weirs]))
    return "\n".join(lines)
