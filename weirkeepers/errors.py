"""The errors of this package."""


class WeirError(ValueError):
    """The base class of the errors of this package."""


class NotRiver(WeirError):
    """The rows are no river: the place of the wrong row."""

    def __init__(self, place):
        super().__init__(f"no river: place {place}")
        self.place = place


class NotRights(WeirError):
    """The rows are no rights: the place of the wrong row."""

    def __init__(self, place):
        super().__init__(f"no rights: place {place}")
        self.place = place


class NotText(WeirError):
    """The text is wrong: the number of the wrong line."""

    def __init__(self, line):
        super().__init__(f"wrong text: line {line}")
        self.line = line


class NoWeir(WeirError):
    """The river has no weir of this name."""

    def __init__(self, name):
        super().__init__(f"no weir: {name!r}")
        self.name = name


class NoRight(WeirError):
    """There is no right of this name."""

    def __init__(self, name):
        super().__init__(f"no right: {name!r}")
        self.name = name


class NotDown(WeirError):
    """The second weir is not downstream of the first."""

    def __init__(self, high, low):
        super().__init__(f"{low!r} is not down of {high!r}")
        self.high = high
        self.low = low


class NotSprings(WeirError):
    """These are no springs: the key of a dict."""

    def __init__(self, weir):
        super().__init__(f"no springs: {weir!r}")
        self.weir = weir


class NotDay(WeirError):
    """This is no day: the key of a dict."""

    def __init__(self, key):
        super().__init__(f"no day: {key!r}")
        self.key = key


class NotSharing(WeirError):
    """This is no sharing: the key of a dict."""

    def __init__(self, name):
        super().__init__(f"no sharing: {name!r}")
        self.name = name


class NotWorths(WeirError):
    """These are no worths: the key of a dict."""

    def __init__(self, name):
        super().__init__(f"no worths: {name!r}")
        self.name = name


class NotBook(WeirError):
    """This is no book: the cause, the weir and the right."""

    def __init__(self, cause, weir, name):
        super().__init__(f"no book: {cause} at {weir!r}, {name!r}")
        self.cause = cause
        self.weir = weir
        self.name = name


class NotFirstKind(WeirError):
    """The book is not of the first kind: the kind that it has."""

    def __init__(self, kind):
        super().__init__(f"a book of the kind {kind!r}")
        self.kind = kind


class RingError(WeirError):
    """Three rights go round at a weir."""

    def __init__(self, weir, names):
        super().__init__(f"{names!r} go round at {weir!r}")
        self.weir = weir
        self.names = names


class NotColumn(WeirError):
    """The table has no such column or gate."""

    def __init__(self, column):
        super().__init__(f"no column: {column!r}")
        self.column = column


class NotEnd(WeirError):
    """The columns are no end."""

    def __init__(self, columns):
        super().__init__(f"no end: {columns!r}")
        self.columns = columns


class NotTurn(WeirError):
    """This right cannot act so."""

    def __init__(self, name):
        super().__init__(f"no turn: {name!r}")
        self.name = name


class NotSettled(WeirError):
    """The sharing is not settled: the first open right."""

    def __init__(self, name):
        super().__init__(f"not settled: {name!r}")
        self.name = name


class NotTanks(WeirError):
    """These are no tanks: the key of a dict."""

    def __init__(self, name):
        super().__init__(f"no tanks: {name!r}")
        self.name = name


class NotEntry(WeirError):
    """This is no entry: the part that is wrong."""

    def __init__(self, cause):
        super().__init__(f"no entry: {cause}")
        self.cause = cause


class NotLots(WeirError):
    """These are no lots: the wrong place."""

    def __init__(self, place):
        super().__init__(f"no lots: {place!r}")
        self.place = place


class NotMove(WeirError):
    """The two rights cannot be exchanged."""

    def __init__(self, name):
        super().__init__(f"no move: {name!r}")
        self.name = name


class NotLedger(WeirError):
    """The ledger cannot take this: the place and the cause."""

    def __init__(self, place, cause):
        super().__init__(f"no ledger: {cause!r} at {place}")
        self.place = place
        self.cause = cause


class TooMany(WeirError):
    """There are too many to go through: their number."""

    def __init__(self, number):
        super().__init__(f"too many: {number}")
        self.number = number
