"""Senders: what the sender of a feed is told of a change at its source, and what it reckons with and sends.

Rows are tuples with a cell for each column of the source, None for no row.
"""

from filteredcopies.grids import cells_between, slices, spread
from filteredcopies.messages import Change, Put, Take
from filteredcopies.tables import Table

# It stands in a view for a cell that is not told; no cell is a string.
UNTOLD = "untold"


class Sender:
    """The sender of one feed of a network."""

    def __init__(self, network, at):
        feed = network.feed_at(at)
        columns = [network.table.column(name) for name in network.columns_of(feed.source)]
        self._where = feed.where
        self._rule = feed.rule
        self._names = tuple([column.name for column in columns])
        self._elder = tuple([column.name in feed.elder for column in columns])
        self._unsendable = tuple([column.large and column.name not in feed.elder for column in columns])
        self._fixed = tuple([column.fixed for column in columns])
        self._target_places = tuple([self._names.index(name) for name in network.columns_of(feed.target)])
        mentioned = [column for column in columns if column.name in feed.where.mentions()]
        self._mentioned_places = tuple([self._names.index(column.name) for column in mentioned])
        # The cells that stand for all that a column can have, as far as the filter can tell.
        self._choices = {
            column.name: cells_between(feed.where.numbers(column.name), column.empty) for column in mentioned
        }
        # What was worked out already, as searches ask the same again and again.
        self._signals = {}
        self._messages = {}

    def view(self, before, after):
        """The rows before and after, with UNTOLD in the place of each cell that the sender is not told."""
        old = None
        new = after
        if before is not None:
            old = tuple([cell if told else UNTOLD for cell, told in zip(before, self._elder)])
        if before is not None and after is not None:
            new = tuple([
                UNTOLD if unsendable and cell == former else cell
                for cell, former, unsendable in zip(after, before, self._unsendable)
            ])
        return old, new

    def signal_of(self, key, before, after):
        """The signal of a change: a tuple of the moves that the sender reckons with, and whether all is sent."""
        told = (key, *self.view(before, after))
        if told not in self._signals:
            self._signals[told] = (self._moves(*told), self._is_whole(told[2]))
        return self._signals[told]

    def message_by_rule(self, key, before, after):
        """The message that the sender sends of a change by its rule, None for none."""
        change = (key, before, after)
        if change not in self._messages:
            moves, whole = self.signal_of(key, before, after)
            rule = self._rule
            self._messages[change] = self.message_by_deed(rule(moves, whole), key, before, after)
        return self._messages[change]

    def message_by_deed(self, deed, key, before, after):
        """The message of a change that the sender sends for a deed, None for none."""
        if deed is None:
            return None
        if deed == Take.deed:
            return Take(key)
        cells = self._sent_cells(before, after)
        return Put(key, cells) if deed == Put.deed else Change(key, cells)

    def _sent_cells(self, before, after):
        """The cells that a put or a change of this change bears."""
        if after is None:
            return {}
        _, new = self.view(before, after)
        return {self._names[place]: new[place] for place in self._target_places if new[place] != UNTOLD}

    def _is_whole(self, new):
        """Whether there is a row after the change and all cells of the target's columns are sent."""
        return new is not None and UNTOLD not in [new[place] for place in self._target_places]

    def _moves(self, key, old, new):
        """The moves that are possible for a view, whatever the cells are that are not told."""
        former = self._with_fixed_cells(old, new)
        unknown = {}
        for place in self._mentioned_places:
            name = self._names[place]
            # What is not told of the row after is not told of the row before either, and is the same there.
            if former is not None and former[place] == UNTOLD:
                unknown[name] = self._choices[name]
        stays = leaves = enters = away = False
        for part in slices(unknown):
            grid, full = spread(part)
            before = self._mask(key, former, grid, full)
            after = self._mask(key, new, grid, full)
            stays = stays or (before & after) != 0
            leaves = leaves or (before & (full ^ after)) != 0
            enters = enters or ((full ^ before) & after) != 0
            away = away or (before | after) != full
        possible = {"stays": stays, "leaves": leaves, "enters": enters, "away": away}
        return tuple([move for move in possible if possible[move]])

    def _with_fixed_cells(self, old, new):
        """What is known of the row before: in an update also cells of fixed columns, if they are told after it."""
        if old is None or new is None:
            return old
        return tuple([
            cell if fixed and former == UNTOLD else former for former, cell, fixed in zip(old, new, self._fixed)
        ])

    def _mask(self, key, row, grid, full):
        """The entries of the grid for which the row, with their cells where it is not known, is in the filter."""
        if row is None:
            return 0
        told = {Table.KEY: [(key, full)]}
        for place in self._mentioned_places:
            name = self._names[place]
            told[name] = grid[name] if row[place] == UNTOLD else [(row[place], full)]
        yes, _ = self._where.masks(told, full)
        return yes
