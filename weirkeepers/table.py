"""The table of a day: gates, columns, and bases of columns with their figures and levels."""

from weirkeepers.errors import NotColumn


def _gates(rights):
    """The tuple of the gates: those of all weirs, then those of all rights."""
    return tuple([("weir", weir) for weir in rights.river.weirs] + [("call", name) for name in rights.names])


class Table:
    """The gates of a day with their limits, and the columns with their entries."""

    def __init__(self, day):
        gates = _gates(day.rights)
        columns = gates + tuple([("right", name) for name in day.rights.names])
        self.day = day
        self.gates = gates
        self.columns = columns
        self._places = {column: place for place, column in enumerate(columns)}

    def __eq__(self, other):
        return isinstance(other, Table) and self.day == other.day

    def limit(self, gate):
        """The water of the weir, or the call of the right."""
        need_gate(self, gate)
        return self.day.water(gate[1]) if gate[0] == "weir" else self.day.call(gate[1])

    def entry(self, gate, column):
        """1 if the column counts at the gate, otherwise 0."""
        need_gate(self, gate)
        need_column(self, column)
        if column[0] != "right":
            return int(column == gate)
        if gate[0] == "weir":
            return int(self.day.rights.passes(column[1], gate[1]))
        return int(column[1] == gate[1])

    def place_of(self, column):
        """The place of a column in the order of columns."""
        return self._places[column]

    def in_order(self, columns):
        """The tuple of these columns in the order of columns."""
        return tuple([column for column in self.columns if column in columns])


def need_gate(table, gate):
    """Raises NotColumn if the value is no gate."""
    if gate not in table.gates:
        raise NotColumn(gate)


def need_column(table, column):
    """Raises NotColumn if the value is no column."""
    if column not in table.columns:
        raise NotColumn(column)


def wrong_columns(table, columns):
    """A list of the values that are no column, or one that stands there earlier."""
    return [column for place, column in enumerate(columns)
            if column not in table.columns or column in columns[:place]]


def need_columns(table, columns):
    """Raises NotColumn for the first value that is no column, or stands there a second time."""
    wrong = wrong_columns(table, columns)
    if wrong:
        raise NotColumn(wrong[0])


def _swapped(table, rows, left, came):
    """The rows of the basis in which `came` stands in the place of `left`; its figure there is 1 or -1."""
    at = table.place_of(came) + 1
    sign = rows[left][at]
    pivot = tuple([sign * number for number in rows[left]])
    swapped = {column: tuple([own - rows[column][at] * gone for own, gone in zip(rows[column], pivot)])
               for column in rows if column != left}
    swapped[came] = pivot
    return swapped


class Standing:
    """A table with a basis. Each row has the level and, in the order of columns, the figures of a basis column."""

    def __init__(self, table, rows):
        self.table = table
        self.basis = table.in_order(rows)
        self._rows = {column: rows[column] for column in self.basis}

    def __eq__(self, other):
        return isinstance(other, Standing) and self.table == other.table and self.basis == other.basis

    def _need_basis(self, column):
        """Raises NotColumn if the value is no column of the basis."""
        if column not in self.basis:
            raise NotColumn(column)

    def figure(self, one, column):
        """How often the column has the column `one` of the basis in it."""
        self._need_basis(one)
        need_column(self.table, column)
        return self._rows[one][self.table.place_of(column) + 1]

    def level(self, column):
        """The level of the column: 0 outside of the basis."""
        need_column(self.table, column)
        return self._rows[column][0] if column in self.basis else 0

    def measure(self, column):
        """The level of a basis column and its figures for all spares."""
        self._need_basis(column)
        # The spares are the first of the columns, so their figures come next after the level.
        return self._rows[column][:len(self.table.gates) + 1]

    @property
    def is_sound(self):
        """True if the first number of each measure that is not 0 is above 0."""
        zeros = (0,) * (len(self.table.gates) + 1)
        return all([row[:len(zeros)] > zeros for row in self._rows.values()])

    def pivoted(self, column):
        """The standing that the water pivot of a new column leads to, and the column that left."""
        need_column(self.table, column)
        if column in self.basis:
            raise NotColumn(column)
        at = self.table.place_of(column) + 1
        left = min([(self.measure(one), one) for one in self.basis if self._rows[one][at] == 1])[1]
        return Standing(self.table, _swapped(self.table, self._rows, left, column)), left


def _first_rows(table):
    """The rows of all spares: their limits, and the entries of the columns at their gates."""
    return {gate: tuple([table.limit(gate)] + [table.entry(gate, column) for column in table.columns])
            for gate in table.gates}


def first_standing(table):
    """The standing with all spares as its basis."""
    return Standing(table, _first_rows(table))


def standing_of(table, columns):
    """The standing with these columns as its basis, or None if they are no basis."""
    need_columns(table, columns)
    if len(columns) != len(table.gates):
        return None
    rows = _first_rows(table)
    for column in columns:
        if column not in rows:
            at = table.place_of(column) + 1
            leaving = [one for one in rows if one not in columns and rows[one][at] != 0]
            if not leaving:
                return None
            rows = _swapped(table, rows, leaving[0], column)
    return Standing(table, rows)
