"""Runs: a table and its copies, which steps change."""

from filteredcopies.copies import cells_of, row_of
from filteredcopies.errors import BadOrder, BadRow, Broken, Fixed, NoRow, NotPlain, NoTarget, Stopped
from filteredcopies.flows import Flow, fault_of
from filteredcopies.messages import Put, Take
from filteredcopies.networks import TABLE
from filteredcopies.plain import is_integer
from filteredcopies.tables import Table


class Run:
    """A network with a table and copies, which are empty at first."""

    def __init__(self, network):
        self.network = network
        self._flow = Flow(network)
        # What the table and the copies have at each key (see `flows`).
        self._spots = {}
        self._log = []

    def step(self, key, cells, *, order=()):
        """Change the table at one key; returns the messages that were sent, as a list of (feed, message)."""
        spot = self._checked_spot(key, cells)
        in_order = self._checked_order(order)
        names = self.network.table.names
        row = None if cells is None else tuple([cells[name] for name in names])
        self._spots[key], sent = self._flow.step(key, spot, row, in_order)
        self._log.extend(sent)
        return sent

    def _checked_spot(self, key, cells):
        """What there is at the key, if its row in the table can be changed to these cells."""
        table = self.network.table
        if cells is not None:
            table.check(key, cells)
        elif not is_integer(key):
            raise BadRow(Table.KEY)
        spot = self._spots.get(key, self._flow.bare_spot())
        row = spot[0]
        if cells is None and row is None:
            raise NoRow(key)
        if cells is not None and row is not None:
            for column, cell in zip(table.columns, row):
                if column.fixed and cells[column.name] != cell:
                    raise Fixed(column.name)
        return spot

    def _checked_order(self, order):
        """The order in which the feeds stand there."""
        if not isinstance(order, tuple):
            raise BadOrder(order)
        usual = list(range(len(self.network.feeds)))
        if order == ():
            return usual
        if not all([is_integer(at) for at in order]) or sorted(order) != usual:
            raise BadOrder(order)
        return order

    def play(self, history):
        """Do all steps of a history, or none if one of them raises an error."""
        spots = {key: self._spots[key] for key in self._spots}
        log = list(self._log)
        for at, (key, cells, order) in enumerate(history):
            try:
                self.step(key, cells, order=order)
            except (BadRow, NoRow, Fixed, BadOrder, Stopped):
                self._spots = spots
                self._log = log
                raise Broken(at) from None

    def rows(self, name=TABLE):
        """The rows of the table or of a copy: a dict from the keys, ascending, to the cells."""
        columns = self.network.columns_of(name)
        rows = self._rows(name)
        return {key: cells_of(columns, rows[key]) for key in rows}

    def _rows(self, name):
        """The same with the rows as tuples."""
        found = {}
        for key in sorted(self._spots):
            spot = self._spots[key]
            row = spot[0] if name == TABLE else row_of(spot[1 + self._place(name)])
            if row is not None:
                found[key] = row
        return found

    def _place(self, name):
        """The index of the target of this name."""
        names = [target.name for target in self.network.targets]
        if name not in names:
            raise NoTarget(name)
        return names.index(name)

    def holders(self, name, key):
        """The feeds that hold the row of a copy with this key, ascending; none if there is no row."""
        place = self._place(name)
        held = self._spots[key][1 + place] if key in self._spots else None
        return () if held is None else held[1]

    @property
    def is_even(self):
        """Whether all copies are right."""
        return not self.faults()

    def faults(self):
        """What is wrong with the copies: a list of (name, key, fault)."""
        rows = self.rows()
        found = []
        for target in self.network.targets:
            copy = self.rows(target.name)
            for key in sorted(set([*rows, *copy])):
                due = self.network.due(target.name, key, rows[key]) if key in rows else None
                fault = fault_of(copy.get(key), due)
                if fault is not None:
                    found.append((target.name, key, fault))
        return found

    def messages(self):
        """The messages of all steps and renewals that were not undone, each as (feed, message)."""
        yield from self._log

    def renew(self, at, where):
        """Give a feed another filter; returns the messages that were sent, as a list of (feed, message)."""
        former = self.network.feed_at(at)
        for target in self.network.targets:
            feeds = self.network.feeds_to(target.name)
            if len(feeds) > 1:
                raise NotPlain(len(feeds))
        network = self.network.with_filter(at, where)
        spots = {key: self._spots[key] for key in self._spots}
        log = []
        cells = self.rows(former.source)
        for key in cells:
            message = self._renewal(former, network.feeds[at], key, cells[key])
            if message is not None:
                spots[key], sent = self._flow.push(key, spots[key], at, message)
                log.extend(sent)
        self.network = network
        self._flow = Flow(network)
        self._spots = spots
        self._log.extend(log)
        return log

    def _renewal(self, former, renewed, key, cells):
        """The message that a feed sends for a row of its source when its filter is renewed, None for none."""
        was_in = (key, cells) in former.where
        is_in = (key, cells) in renewed.where
        if is_in and not was_in:
            return Put(key, {name: cells[name] for name in self.network.columns_of(former.target)})
        if was_in and not is_in:
            return Take(key)
        return None
