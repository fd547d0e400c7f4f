"""The errors of the package.

Each has the values that it is made with as attributes, under the names of its parameters. They are copies,
so that an error keeps telling what was wrong when a list or dict that was passed is changed later.
"""

from filteredcopies.plain import copied


class CopiesError(ValueError):
    """An error about arguments."""


class BadColumn(CopiesError):
    """The name of a column is not a word other than key."""

    def __init__(self, name):
        self.name = copied(name)


class BadTable(CopiesError):
    """The columns of a table are too few or too many (-1), or the one at this index is wrong."""

    def __init__(self, at):
        self.at = copied(at)


class BadRow(CopiesError):
    """A key (its name), all cells (None) or the cell of this name do not fit the table."""

    def __init__(self, part):
        self.part = copied(part)


class BadFilter(CopiesError):
    """A name, sign or number, as part tells, of which no filter can be made."""

    def __init__(self, part):
        self.part = copied(part)


class BadHabit(CopiesError):
    """The habit of this name has a value that it cannot have."""

    def __init__(self, habit):
        self.habit = copied(habit)


class BadTarget(CopiesError):
    """The name of a target (-1), or its column at this index, is wrong."""

    def __init__(self, at):
        self.at = copied(at)


class BadNetwork(CopiesError):
    """The targets or feeds, as part tells, are too few or many (-1), or the one at this index is wrong."""

    def __init__(self, part, at):
        self.part = copied(part)
        self.at = copied(at)


class BadOrder(CopiesError):
    """An order that does not contain the index of each feed once."""

    def __init__(self, order):
        self.order = copied(order)


class BadPair(CopiesError):
    """Two networks differ in what part tells, so their copies cannot be compared."""

    def __init__(self, part):
        self.part = copied(part)


class NotPlain(CopiesError):
    """So many feeds, where only one can be."""

    def __init__(self, many):
        self.many = copied(many)


class TooMany(CopiesError):
    """A network whose weight or span is too large to search all histories."""

    def __init__(self, size):
        self.size = copied(size)


class NoRule(CopiesError):
    """No deed is right for all of these changes, which have this signal."""

    def __init__(self, signal, changes):
        self.signal = copied(signal)
        self.changes = copied(changes)


class NoRow(LookupError):
    """There is no row with this key."""

    def __init__(self, key):
        self.key = copied(key)


class NoColumn(LookupError):
    """The table has no column of this name."""

    def __init__(self, name):
        self.name = copied(name)


class NoTarget(LookupError):
    """The network has no copy of this name."""

    def __init__(self, name):
        self.name = copied(name)


class NoFeed(LookupError):
    """No feed of the network has this index."""

    def __init__(self, at):
        self.at = copied(at)


class NoSignal(LookupError):
    """No change has this signal."""

    def __init__(self, signal):
        self.signal = copied(signal)


class NoHolding(LookupError):
    """No history shows these holdings."""

    def __init__(self, holding):
        self.holding = copied(holding)


class Refused(RuntimeError):
    """A copy refused the message; row is what it had at the key, or None."""

    def __init__(self, message, row):
        self.message = copied(message)
        self.row = copied(row)


class Stopped(RuntimeError):
    """The message of the feed with this index was refused, and its step undone."""

    def __init__(self, at, message, row):
        self.at = copied(at)
        self.message = copied(message)
        self.row = copied(row)


class Fixed(RuntimeError):
    """An update changes the cell of this fixed column."""

    def __init__(self, name):
        self.name = copied(name)


class Broken(RuntimeError):
    """The step with this index in a history raised an error."""

    def __init__(self, at):
        self.at = copied(at)
