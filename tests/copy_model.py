"""A second reading of copies, straight from the points 10 to 12 of the document, one `if` for each sentence."""


class ModelCopy:
    """A copy as a dict from keys to lists [cells, set of holders]."""

    def __init__(self, columns, present="stop", lacking="stop", gone="stop", shared="one"):
        self.columns = columns
        self.present, self.lacking, self.gone, self.shared = present, lacking, gone, shared
        self.held = {}

    def made(self, cells):
        """A row that is made of a message has the cells of the message and None in the other columns."""
        return {name: cells[name] if name in cells else None for name in self.columns}

    def put(self, key, cells, feed):
        """Whether the put is accepted; the same for the two below."""
        if key not in self.held:
            self.held[key] = [self.made(cells), {feed}]
            return True
        if self.present == "stop":
            return False
        if self.present == "replace":
            self.held[key][0] = self.made(cells)
        if self.present == "merge":
            for name in cells:
                self.held[key][0][name] = cells[name]
        self.held[key][1].add(feed)
        return True

    def change(self, key, cells, feed):
        if key in self.held:
            for name in cells:
                self.held[key][0][name] = cells[name]
            self.held[key][1].add(feed)
            return True
        if self.lacking == "stop":
            return False
        if self.lacking == "make":
            self.held[key] = [self.made(cells), {feed}]
        return True

    def take(self, key, cells, feed):
        if key not in self.held:
            return self.gone == "skip"
        self.held[key][1].discard(feed)
        if self.shared == "one" or not self.held[key][1]:
            del self.held[key]
        return True

    def apply(self, deed, key, cells, feed):
        return {"put": self.put, "change": self.change, "take": self.take}[deed](key, cells, feed)

    def shown(self):
        """The keys, ascending, each with cells and holders."""
        return [(key, self.held[key][0], tuple(sorted(self.held[key][1]))) for key in sorted(self.held)]
