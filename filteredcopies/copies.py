"""Copies: the rows that they hold, and the habits by which they apply messages."""

from filteredcopies.errors import BadHabit, NoRow, Refused
from filteredcopies.messages import Change, Put, Take

# The values that each habit can have, in the order in which the habits are checked.
VALUES = {
    "present": ("stop", "keep", "replace", "merge"),
    "lacking": ("stop", "skip", "make"),
    "gone": ("stop", "skip"),
    "shared": ("one", "all"),
}


class Habits:
    """How a copy applies messages that do not fit, and takes where several feeds hold a row."""

    def __init__(self, *, present="stop", lacking="stop", gone="stop", shared="one"):
        told = {"present": present, "lacking": lacking, "gone": gone, "shared": shared}
        for habit in VALUES:
            if told[habit] not in VALUES[habit]:
                raise BadHabit(habit)
        self.present = present
        self.lacking = lacking
        self.gone = gone
        self.shared = shared

    def named(self):
        """A dict from the names of the four habits to their values."""
        return {"present": self.present, "lacking": self.lacking, "gone": self.gone, "shared": self.shared}

    def turned(self, **habits):
        """These habits, some of them with other values."""
        told = {**self.named(), **habits}
        return Habits(**told)

    def __eq__(self, other):
        return isinstance(other, Habits) and self.named() == other.named()


def applied(columns, habits, held, message, feed):
    """What a copy holds at the key of a message behind it; raises Refused.

    What it holds is a tuple (row, holders), the row a tuple with a cell for each column; None if it has no row.
    """
    way = _way(habits, held, message.deed)
    if way == "stop":
        raise Refused(message, cells_of(columns, row_of(held)))
    if way == "skip":
        return held
    if way in ("one", "all"):
        return _taken(held, feed, way)
    return _written(columns, held, message.cells, way), _joined(held, feed)


def row_of(held):
    """The row in what a copy holds at a key, None if there is none."""
    return None if held is None else held[0]


def cells_of(columns, row):
    """The cells of a row as a dict, None for no row."""
    return None if row is None else dict(zip(columns, row))


def _way(habits, held, deed):
    """What to do with a message of this deed: a value of a habit, or what that value would do."""
    if deed == Put.deed:
        return "make" if held is None else habits.present
    if deed == Change.deed:
        return habits.lacking if held is None else "merge"
    return habits.gone if held is None else habits.shared


def _written(columns, held, cells, way):
    """The row that is made of these cells or replaced by them, or into which they are merged; keep keeps it."""
    if way == "keep":
        return row_of(held)
    if way == "merge":
        return tuple([cells.get(name, cell) for name, cell in zip(columns, row_of(held))])
    return tuple([cells.get(name) for name in columns])


def _joined(held, feed):
    """The holders of a row when this feed has become one."""
    holders = () if held is None else held[1]
    return tuple(sorted(set([*holders, feed])))


def _taken(held, feed, way):
    """What is held when this feed is no holder: nothing, or with all the row for the holders that are left."""
    row, holders = held
    left = tuple([holder for holder in holders if holder != feed])
    return (row, left) if way == "all" and left else None


class Copy:
    """Rows with a key and cells, each held by some feeds. Messages put them in, change them and take them out."""

    def __init__(self, columns, habits):
        self.columns = tuple(columns)
        self.habits = habits
        self._held = {}
        self._keys = []

    def apply(self, message, *, feed=0):
        """Apply a message that comes by this feed, or refuse it."""
        key = message.key
        held = applied(self.columns, self.habits, self._held.get(key), message, feed)
        # The list of keys is made anew, since an iteration over this copy may still go over the old one.
        if held is None:
            self._keys = [other for other in self._keys if other != key]
            self._held.pop(key, None)
            return
        if key not in self._held:
            self._keys = sorted([*self._keys, key])
        self._held[key] = held

    def rows(self):
        """A dict from the keys, ascending, to the cells."""
        return {key: self[key] for key in self._keys}

    def holders(self, key):
        """The feeds that hold the row with this key, ascending; none if there is no row."""
        return self._held[key][1] if key in self._held else ()

    def __getitem__(self, at):
        if at not in self._held:
            raise NoRow(at)
        return cells_of(self.columns, row_of(self._held[at]))

    def __contains__(self, x):
        return x in self._held

    def __iter__(self):
        return iter(self._keys)

    def __len__(self):
        return len(self._held)
