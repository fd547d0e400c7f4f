"""Starts: whether a copy is right in the end that is loaded while changes go on."""

from filteredcopies.copies import applied, cells_of, row_of
from filteredcopies.errors import Refused, TooMany
from filteredcopies.flows import STOPPED, Flow, fault_of, loaded
from filteredcopies.networks import check_single
from filteredcopies.plain import copied
from filteredcopies.pools import Pools
from filteredcopies.senders import Sender
from filteredcopies.trails import Trail

AHEAD = "ahead"
MOST_SPAN = 60000
# A column has a cell in the table now, in the copy and in the table behind all changes; one more comes with a change.
MOST_CELLS = 4


def judge_start(network, *, mark):
    """Whether a copy that is loaded behind changes and gets them all, or before them and gets none, is right."""
    check_single(network)
    size = network.span(MOST_CELLS)
    if size > MOST_SPAN:
        raise TooMany(size)
    cases = Cases(network, mark == AHEAD)
    return cases.start()


class Start:
    """Whether a start is right, and a case with the fewest changes if it is not."""

    def __init__(self, key, first, later, fault):
        self._first = copied(first)
        self._later = copied(later)
        self.key = key
        self.fault = fault

    @property
    def first(self):
        """The cells at the first moment; None if there is no row then, or if the start is right."""
        return copied(self._first)

    @property
    def later(self):
        """The cells behind each change, None for a removal; empty if the start is right."""
        return copied(self._later)

    def __bool__(self):
        return self.fault is None

    def __len__(self):
        return len(self._later)


class Cases:
    """A search of all cases of a start on one key.

    Its states are tuples (key, rows, stopped). The rows are that of the table now, that of the copy, and with the
    mark ahead the last one of the table: from this one the copy is loaded, before the changes that lead there are
    applied to it. stopped tells whether a message was refused; then the row of the copy does not matter any more.
    """

    def __init__(self, network, ahead):
        self._ahead = ahead
        self._target = network.targets[0]
        self._names = network.table.names
        self._flow = Flow(network)
        self._sender = Sender(network, 0)
        self._pools = Pools([network], [self._names, self._target.columns, self._names])
        self._trail = Trail()

    def start(self):
        """Look at the states in the order of the changes that they take, up to the first wrong one at an end."""
        for key in self._pools.key_samples:
            self._begin(key)
        found = self._trail.search(self._go_on)
        if found is None:
            return Start(None, None, (), None)
        at, (row, fault) = found
        key, _, _ = self._trail.state(at)
        first, *later = [cells_of(self._names, told) for told in [*self._trail.steps(at), row]]
        return Start(key, first, tuple(later), fault)

    def _begin(self, key):
        """Keep the states before all changes."""
        nothing = (None, None, None)
        for row in [None, *self._pools.rows_near(nothing)]:
            copy = self._flow.dues(key, row)[0]
            if not self._ahead:
                self._meet((key, (row, copy, None), False), None, row)
                continue
            for first in [None, *self._pools.rows_near((None, copy, row))]:
                self._meet((key, (first, copy, row), False), None, first)

    def _go_on(self, at):
        """Take each change from a state; returns the first that can be the end of a wrong case as (row, fault)."""
        state = self._trail.state(at)
        for row in self._pools.rows_after(state[1]):
            behind = self._changed(state, row)
            fault = self._fault(behind)
            if fault is not None:
                return row, fault
            self._meet(behind, at, row)
        return None

    def _changed(self, state, row):
        """The state behind a change of the table to this row."""
        key, (now, copy, last), stopped = state
        if self._ahead and not stopped:
            message = self._sender.message_by_rule(key, now, row)
            if message is not None:
                try:
                    copy = row_of(applied(self._target.columns, self._target.habits, loaded(copy), message, 0))
                except Refused:
                    return key, (row, None, last), True
        return key, (row, copy, last), stopped

    def _fault(self, state):
        """What is wrong if the changes end here, None if nothing is or if they cannot end here."""
        key, (now, copy, last), stopped = state
        if self._ahead and now != last:
            return None
        if stopped:
            return STOPPED
        return fault_of(copy, self._flow.dues(key, now)[0])

    def _meet(self, state, former, row):
        """Keep a state if it is new."""
        key, rows, stopped = state
        self._trail.meet((key, stopped, self._pools.shape(rows)), state, former, row)
