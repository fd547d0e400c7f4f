"""Copies: the rows that they hold, and the habits by which they apply messages."""

from filteredcopies.errors import BadHabit, NoRow, Refused
from filteredcopies.messages import Change, Put, Take

# The values that each habit can have, in the order in which the habits are checked.
VALUES = {
    "present": ("stop", "keep", "replace", "merge"),
    "lacking": ("stop", "skip", "make"),
    "gone": ("stop", "skip"),
    "shared": ("one", "all"),
}


class Habits:
    """How a copy applies messages that do not fit, and takes where several feeds hold a row."""

    def __init__(self, *, present="stop", lacking="stop", gone="stop", shared="one"):
        told = {"present": present, "lacking": lacking, "gone": gone, "shared": shared}
        for habit in VALUES:
            if told[habit] not in VALUES[habit]:
                raise BadHabit(habit)
        self.present = present
        self.lacking = lacking
        self.gone = gone
        self.shared = shared

    def named(self):
        """A dict from the names of the four habits to their values."""
        return {"present": self.present, "lacking": self.lacking, "gone": self.gone, "shared": self.shared}

    def turned(self, **habits):
        """These habits, some of them with other values."""
        told = {**self.named(), **habits}
        return Habits(**told)

    def __eq__(self, other):
        return isinstance(other, Habits) and self.named() == other.named()


class Copy:
    """Rows with a key and cells, each held by some feeds. Messages put them in, change them and take them out."""

    def __init__(self, columns, habits):
        self.columns = tuple(columns)
        self.habits = habits
        self._rows = {}
        self._holders = {}
        self._keys = []

    def apply(self, message, *, feed=0):
        """Apply a message that comes by this feed, or refuse it."""
        way = self._way(message)
        if way == "stop":
            raise Refused(message, self._rows.get(message.key))
        if way in ("one", "all"):
            self._take(message.key, feed, way)
        elif way != "skip":
            self._write(message.key, message.cells, way)
            self._hold(message.key, feed)

    def _way(self, message):
        """What to do with a message: a value of a habit, or what that value would do."""
        if message.key in self._rows:
            ways = {Put.deed: self.habits.present, Change.deed: "merge", Take.deed: self.habits.shared}
        else:
            ways = {Put.deed: "make", Change.deed: self.habits.lacking, Take.deed: self.habits.gone}
        return ways[message.deed]

    def _write(self, key, cells, way):
        """Make a row of these cells, replace it by them, or merge them into it; keep leaves it as it is."""
        if way == "make":
            # A new list, since an iteration over this copy may still go over the old one.
            self._keys = sorted([*self._keys, key])
        if way in ("make", "replace"):
            self._rows[key] = {name: cells.get(name) for name in self.columns}
        elif way == "merge":
            self._rows[key] = {**self._rows[key], **cells}

    def _hold(self, key, feed):
        """Make the feed a holder of the row."""
        self._holders[key] = tuple(sorted(set([*self.holders(key), feed])))

    def _take(self, key, feed, way):
        """Take the feed from the holders of the row, and the row out: always, or if no holder is left."""
        left = tuple([holder for holder in self._holders[key] if holder != feed])
        if way == "all" and left:
            self._holders[key] = left
            return
        del self._rows[key]
        del self._holders[key]
        self._keys = [other for other in self._keys if other != key]

    def rows(self):
        """A dict from the keys, ascending, to the cells."""
        return {key: dict(self._rows[key]) for key in self._keys}

    def holders(self, key):
        """The feeds that hold the row with this key, ascending; none if there is no row."""
        return self._holders.get(key, ())

    def __getitem__(self, at):
        if at not in self._rows:
            raise NoRow(at)
        return dict(self._rows[at])

    def __contains__(self, x):
        return x in self._rows

    def __iter__(self):
        return iter(self._keys)

    def __len__(self):
        return len(self._rows)
