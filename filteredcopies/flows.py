"""Flows: how a step at one key goes through a network.

A spot is what the table and the copies have at a key: a tuple with the row of the table, None for no row, and
then for each copy what it holds there (see `applied`). What is here changes no spot, but makes new ones.
"""

from filteredcopies.copies import applied, row_of
from filteredcopies.errors import Refused, Stopped
from filteredcopies.networks import TABLE
from filteredcopies.senders import Sender

LEFT_OVER = "left over"
LACKS = "lacks"
UNLIKE = "unlike"
STOPPED = "stopped"


def fault_of(row, due):
    """What is wrong with what a copy has at a key, where it should have what is due; None if nothing is."""
    if row == due:
        return None
    if due is None:
        return LEFT_OVER
    if row is None:
        return LACKS
    return UNLIKE


def loaded(row):
    """What a copy holds that is loaded with this row, or with none: its feed is the one with the index 0."""
    return None if row is None else (row, (0,))


def rows_of(spot):
    """The rows of the table and of the copies, None where there is none."""
    return [spot[0], *[row_of(held) for held in spot[1:]]]


def holdings_of(spot):
    """For each copy the holders of its row, none if there is no row."""
    return tuple([() if held is None else held[1] for held in spot[1:]])


class Flow:
    """A network through which steps go."""

    def __init__(self, network):
        self._targets = network.targets
        self._senders = [Sender(network, at) for at in range(len(network.feeds))]
        self._sources = [feed.source for feed in network.feeds]
        names = [target.name for target in network.targets]
        self._fed = [names.index(feed.target) for feed in network.feeds]
        self._names = network.table.names
        self._let_through = [network.filter_of(name) for name in names]
        # What was worked out already, as searches ask the same again and again.
        self._dues = {}

    def bare_spot(self):
        """The spot of a key at which there is nothing."""
        return (None,) * (1 + len(self._targets))

    def usual_order(self):
        """The feeds in the order 0, 1, 2 and so on."""
        return list(range(len(self._fed)))

    def step(self, key, spot, row, order):
        """The spot behind a change of the table to this row, and a list of (feed, message); raises Stopped."""
        return self._carried(key, (row, *spot[1:]), {TABLE: (spot[0], row)}, order, 0)

    def push(self, key, spot, at, message):
        """Likewise, if one message of a feed is sent though its source did not change."""
        place = self._fed[at]
        held = self._applied(place, spot[1 + place], message, at)
        behind = (*spot[:1 + place], held, *spot[2 + place:])
        changes = self._changes_of_copy(place, spot[1 + place], held)
        behind, sent = self._carried(key, behind, changes, self.usual_order(), 1 + place)
        return behind, [(at, message), *sent]

    def _carried(self, key, spot, changes, order, first):
        """The spot and the messages when changes of sources have gone on through the targets from this one on."""
        parts = list(spot)
        sent = []
        for place in range(first, len(self._targets)):
            held = spot[1 + place]
            for at in order:
                if self._fed[at] == place and self._sources[at] in changes:
                    before, after = changes[self._sources[at]]
                    message = self._senders[at].message_by_rule(key, before, after)
                    if message is not None:
                        held = self._applied(place, held, message, at)
                        sent.append((at, message))
            parts[1 + place] = held
            changes = {**changes, **self._changes_of_copy(place, spot[1 + place], held)}
        return tuple(parts), sent

    def _applied(self, place, held, message, at):
        """What a copy holds behind a message."""
        target = self._targets[place]
        try:
            return applied(target.columns, target.habits, held, message, at)
        except Refused as refused:
            raise Stopped(at, refused.message, refused.row) from None

    def _changes_of_copy(self, place, held, behind):
        """A dict with the change of a copy, empty if its row is as it was; other holders are no change."""
        before = row_of(held)
        after = row_of(behind)
        return {} if before == after else {self._targets[place].name: (before, after)}

    def dues(self, key, row):
        """For each copy the row that it must have for a row of the table, or for None."""
        entry = (key, row)
        if entry not in self._dues:
            self._dues[entry] = self._dues_of(key, row)
        return self._dues[entry]

    def _dues_of(self, key, row):
        """The same, worked out anew."""
        if row is None:
            return (None,) * len(self._targets)
        cells = dict(zip(self._names, row))
        found = []
        for target, chosen in zip(self._targets, self._let_through):
            is_due = (key, cells) in chosen
            found.append(tuple([cells[name] for name in target.columns]) if is_due else None)
        return tuple(found)
