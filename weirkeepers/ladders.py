"""Ladders: how each gate ranks the columns. Holds: sets of columns that hold every column somewhere."""

from weirkeepers.errors import NotColumn, RingError
from weirkeepers.rings import first_ring
from weirkeepers.table import need_column, need_columns, need_gate


def _passing(book, gate):
    """The tuple of the rights that pass the gate, the hindmost first."""
    if gate[0] == "call":
        return (gate[1],)
    return book.ranked(gate[1])[::-1]


def _ladder(book, table, gate):
    """The tuple of all columns, the lowest on the ladder of the gate first."""
    passing = _passing(book, gate)
    others = [name for name in book.rights.names if name not in passing]
    rows = [("right", name) for name in list(passing) + others]
    return tuple([gate] + rows + [spare for spare in table.gates if spare != gate])


class Ladders:
    """The ladders of all gates of a table, by the orders of a book."""

    def __init__(self, book, table):
        ring = first_ring(book)
        if ring is not None:
            raise RingError(ring[0], ring[1:])
        self.book = book
        self.table = table
        self._ladders = {gate: _ladder(book, table, gate) for gate in table.gates}
        self._heights = {gate: {column: place for place, column in enumerate(self._ladders[gate])}
                         for gate in table.gates}

    def __eq__(self, other):
        return isinstance(other, Ladders) and self.table == other.table and self._ladders == other._ladders

    def ladder(self, gate):
        """The tuple of all columns, the lowest first."""
        need_gate(self.table, gate)
        return self._ladders[gate]

    def is_above(self, gate, one, other):
        """True if the one stands higher on the ladder of the gate than the other."""
        need_gate(self.table, gate)
        need_column(self.table, one)
        need_column(self.table, other)
        return self.height(gate, one) > self.height(gate, other)

    def height(self, gate, column):
        """The place of a column on the ladder of a gate, the lowest at 0."""
        return self._heights[gate][column]

    def lowest(self, gate, columns):
        """The low of some columns at a gate."""
        heights = self._heights[gate]
        return min([(heights[column], column) for column in columns])[1]


def _holding(ladders, lows, column):
    """A list of the gates at which the column is one of these lows or stands lower."""
    return [gate for gate in lows if ladders.height(gate, column) <= ladders.height(gate, lows[gate])]


def _above_all(ladders, columns, free):
    """A list of the columns that stand above the low of these columns at every gate but the free one."""
    table = ladders.table
    lows = {gate: ladders.height(gate, ladders.lowest(gate, columns)) for gate in table.gates if gate != free}
    return [other for other in table.columns if all([ladders.height(gate, other) > lows[gate] for gate in lows])]


class Hold:
    """A set of as many columns as gates in which every column is held at some gate."""

    def __init__(self, ladders, columns):
        self.ladders = ladders
        self.columns = ladders.table.in_order(columns)
        self._lows = {gate: ladders.lowest(gate, columns) for gate in ladders.table.gates}

    def __eq__(self, other):
        return isinstance(other, Hold) and self.ladders == other.ladders and self.columns == other.columns

    def low(self, gate):
        """The column of the hold that is lowest on the ladder of the gate."""
        need_gate(self.ladders.table, gate)
        return self._lows[gate]

    def gate_of(self, column):
        """The gate at which the column of the hold is the low."""
        if column not in self.columns:
            raise NotColumn(column)
        return [gate for gate in self._lows if self._lows[gate] == column][0]

    def holder(self, column):
        """The first gate at which the column is held."""
        need_column(self.ladders.table, column)
        return _holding(self.ladders, self._lows, column)[0]

    def pivoted(self, column):
        """The hold that the rank pivot of a column leads to, and the column that came in, or None."""
        gate = self.gate_of(column)
        rest = [other for other in self.columns if other != column]
        if all([other[0] != "right" for other in rest]):
            return None
        free = self.gate_of(self.ladders.lowest(gate, rest))
        candidates = _above_all(self.ladders, rest, free)
        came = max([(self.ladders.height(free, other), other) for other in candidates])[1]
        return Hold(self.ladders, rest + [came]), came


def hold_of(ladders, columns):
    """The hold of these columns, or None if they are none."""
    table = ladders.table
    need_columns(table, columns)
    if len(columns) != len(table.gates):
        return None
    lows = {gate: ladders.lowest(gate, columns) for gate in table.gates}
    for column in table.columns:
        if not _holding(ladders, lows, column):
            return None
    return Hold(ladders, columns)


def first_hold(ladders, door):
    """The spares but the door's, and the right that is highest on the ladder of the door; None without rights."""
    rows = [column for column in ladders.ladder(door) if column[0] == "right"]
    if not rows:
        return None
    return Hold(ladders, [gate for gate in ladders.table.gates if gate != door] + rows[-1:])
