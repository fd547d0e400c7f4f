"""Signals: what the sender of a feed is told of a change at its source, reckons with, and sends."""

from filteredcopies.senders import UNTOLD, Sender


def view(network, at, key, before, after):
    """The cells before and after a change that the sender is told, None where there is no row."""
    sender = Sender(network, at)
    names = _names(network, at)
    old, new = sender.view(_row(names, before), _row(names, after))
    return _told(names, old), _told(names, new)


def signal(network, at, key, before, after):
    """The moves that the sender reckons with, and whether it sends all cells of a row."""
    sender = Sender(network, at)
    names = _names(network, at)
    return sender.signal_of(key, _row(names, before), _row(names, after))


def sent(network, at, key, before, after):
    """The message that the sender sends, or None."""
    sender = Sender(network, at)
    names = _names(network, at)
    return sender.message_by_rule(key, _row(names, before), _row(names, after))


def _names(network, at):
    """The names of the columns of the source of a feed."""
    return network.columns_of(network.feed_at(at).source)


def _row(names, cells):
    """The tuple of the cells of a row, None for no row."""
    return None if cells is None else tuple([cells[name] for name in names])


def _told(names, row):
    """The cells of a view that are told, None for no row."""
    if row is None:
        return None
    return {name: cell for name, cell in zip(names, row) if cell != UNTOLD}
