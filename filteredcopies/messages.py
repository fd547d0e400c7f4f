"""Messages: what a feed sends to a copy about one key."""


class Message:
    """What a feed sends: a Put, a Change or a Take."""


class Put(Message):
    """Put this row in."""

    deed = "put"

    def __init__(self, key, cells):
        self.key = key
        self._cells = dict(cells)

    @property
    def cells(self):
        """The cells that it bears."""
        return dict(self._cells)

    def __eq__(self, other):
        return isinstance(other, Put) and self.key == other.key and self._cells == other._cells


class Change(Message):
    """Change this row."""

    deed = "change"

    def __init__(self, key, cells):
        self.key = key
        self._cells = dict(cells)

    @property
    def cells(self):
        """The cells that it bears."""
        return dict(self._cells)

    def __eq__(self, other):
        return isinstance(other, Change) and self.key == other.key and self._cells == other._cells


class Take(Message):
    """Take the row out."""

    deed = "take"

    def __init__(self, key):
        self.key = key

    @property
    def cells(self):
        """No cells."""
        return {}

    def __eq__(self, other):
        return isinstance(other, Take) and self.key == other.key
