"""Entries as texts."""

from weirkeepers.checks import is_numeral
from weirkeepers.entries import Pledge, entry_of
from weirkeepers.errors import NotEntry, NotText

AMOUNT_KINDS = ("spring", "fish", "call", "release")
TAIL = 6


def _times(words):
    """The tuple (day, known, number) that the last words of a line tell, or None."""
    if len(words) != TAIL or words[0::2] != ["on", "known", "number"]:
        return None
    if not all([is_numeral(word) for word in words[1::2]]):
        return None
    return tuple([int(word) for word in words[1::2]])


def _is_pledge(head):
    """True if these are the first words of a pledge."""
    if head[0] != Pledge.KIND:
        return False
    return len(head) == 3 or (len(head) == 5 and head[3] == "at")


def _entry(words):
    """The entry that the words of a line tell. Raises NotEntry if there is none."""
    head = words[:-TAIL]
    times = _times(words[-TAIL:])
    if times is None or not head:
        raise NotEntry("line")
    day, known, number = times
    if head[0] in AMOUNT_KINDS and len(head) == 3 and is_numeral(head[2]):
        return entry_of(head[0], day, known, number, head[1], int(head[2]))
    if _is_pledge(head):
        return Pledge(day, known, number, head[1], head[2], head[4] if len(head) == 5 else None)
    raise NotEntry("line")


def read_entries(text):
    """A list of the entries that the lines of a text tell."""
    entries = []
    for number, line in enumerate(text.split("\n")):
        try:
            entries.append(_entry(line.split(" ")))
        except NotEntry:
            raise NotText(number) from None
    return entries


def write_entries(entries):
    """The lines of entries, in their order."""
    return "\n".join([entry.text() for entry in entries])
