"""Guides: which rules make a network with one feed right, or why none does."""

from filteredcopies.copies import applied, cells_of, row_of
from filteredcopies.errors import NoRule, NoSignal, Refused, TooMany
from filteredcopies.flows import Flow, loaded
from filteredcopies.networks import check_single
from filteredcopies.plain import copied, same
from filteredcopies.pools import Pools
from filteredcopies.rules import Rule
from filteredcopies.senders import Sender

MOST_WEIGHT = 64
DEEDS = ("put", "change", "take", None)


class Guide:
    """For each signal that occurs in a network with one feed, the deeds that are right for it."""

    def __init__(self, network):
        check_single(network)
        size = network.weight()
        if size > MOST_WEIGHT:
            raise TooMany(size)
        # For each signal a dict from the deeds that are wrong for one of its changes to the first such change.
        self._changes = _first_changes(network)

    def signals(self):
        """All signals that occur, ascending."""
        return sorted(self._changes)

    def deeds(self, told):
        """The deeds that are right for a signal."""
        changes = self._changes_with(told)
        return tuple([deed for deed in DEEDS if _change_against(changes, deed) is None])

    def example(self, told):
        """A change that has this signal."""
        changes = list(self._changes_with(told).values())
        return copied(changes[0])

    def against(self, told, deed):
        """A change with this signal for which the deed is not right, None if it is right for the signal."""
        return copied(_change_against(self._changes_with(told), deed))

    def best(self):
        """The rule with the first right deed for each signal that occurs."""
        found = self.conflict()
        if found is not None:
            told, changes = found
            raise NoRule(told, changes)
        return Rule({told: self.deeds(told)[0] for told in self.signals()})

    def conflict(self):
        """The first signal without a right deed, with as few changes as possible that no deed serves, or None."""
        for told in self.signals():
            if not self.deeds(told):
                return told, copied(_fewest(self._changes[told]))
        return None

    def _changes_with(self, told):
        """The changes of a signal, by the deeds that are wrong for them."""
        for known in self._changes:
            if same(known, told):
                return self._changes[known]
        raise NoSignal(told)

    def __bool__(self):
        return all([self.deeds(told) != () for told in self._changes])


def _change_against(changes, deed):
    """The first change for which the deed is wrong, None if there is none."""
    for wrong in changes:
        if deed in wrong:
            return changes[wrong]
    return None


def _fewest(changes):
    """A tuple of as few of these changes as possible such that each deed is wrong for one of them."""
    # For each choice of one change, then of two and so on, the deeds that are wrong for one of them.
    choices = {(): ()}
    while DEEDS not in choices:
        longer = {}
        # Over a list of its own: `choices` becomes the name of the dict that is filled here.
        for wrong in list(choices):
            for more in changes:
                both = tuple([deed for deed in DEEDS if deed in wrong or deed in more])
                longer.setdefault(both, (*choices[wrong], changes[more]))
        choices = longer
    return choices[DEEDS]


def _first_changes(network):
    """For each signal that occurs a dict from the deeds that are wrong for a change to the first such change."""
    trial = Trial(network)
    names = network.table.names
    pools = Pools([network], [names])
    found = {}
    for key in pools.key_samples:
        for before in [None, *pools.rows_near([None])]:
            for after in pools.rows_after([before]):
                changes = found.setdefault(trial.signal_of(key, before, after), {})
                change = (key, cells_of(names, before), cells_of(names, after))
                changes.setdefault(trial.wrong_deeds(key, before, after), change)
    return found


class Trial:
    """A network with one feed in which deeds are tried for changes at the table."""

    def __init__(self, network):
        self._target = network.targets[0]
        self._sender = Sender(network, 0)
        self._flow = Flow(network)

    def signal_of(self, key, before, after):
        """The signal of a change."""
        return self._sender.signal_of(key, before, after)

    def wrong_deeds(self, key, before, after):
        """The deeds that are not right for a change."""
        return tuple([deed for deed in DEEDS if not self._is_right(deed, key, before, after)])

    def _is_right(self, deed, key, before, after):
        """Whether the message for a deed is accepted, and leaves right what was right before the change."""
        held = loaded(self._flow.dues(key, before)[0])
        message = self._sender.message_by_deed(deed, key, before, after)
        if message is not None:
            try:
                held = applied(self._target.columns, self._target.habits, held, message, 0)
            except Refused:
                return False
        return row_of(held) == self._flow.dues(key, after)[0]
