"""Comparing: whether a copy of one network and a copy of another one hold the same rows in all histories."""

from filteredcopies.copies import cells_of, row_of
from filteredcopies.errors import BadPair, Stopped, TooMany
from filteredcopies.flows import Flow, holdings_of, rows_of
from filteredcopies.networks import joint_span
from filteredcopies.plain import copied
from filteredcopies.pools import Pools
from filteredcopies.trails import Trail

MOST_SPAN = 60000


def compare_copies(one, other, *, names):
    """Whether these copies, one of each network, are alike."""
    if one.table != other.table:
        raise BadPair("table")
    targets = [network.target_of(name) for network, name in zip([one, other], names)]
    if sorted(targets[0].columns) != sorted(targets[1].columns):
        raise BadPair("columns")
    size = joint_span([one, other], 2 + len(one.targets) + len(other.targets))
    if size > MOST_SPAN:
        raise TooMany(size)
    pairs = Pairs(one, other, targets)
    return pairs.parting()


class Parting:
    """Whether two copies are alike, and a history with the fewest steps that parts them if they are not."""

    def __init__(self, history, stopped):
        self._history = copied(history)
        self.key = history[0][0] if history else None
        self.stopped = stopped

    @property
    def history(self):
        """The steps as tuples (key, cells), empty if the copies are alike."""
        return copied(self._history)

    def __bool__(self):
        return not self._history

    def __len__(self):
        return len(self._history)


class Pairs:
    """A search of all histories of two networks side by side, on one key.

    Its states are tuples (key, spot of the one, spot of the other).
    """

    def __init__(self, one, other, targets):
        self._names = one.table.names
        self._flows = [Flow(one), Flow(other)]
        # Where the copies stand in the spots.
        self._places = [1 + network.targets.index(target) for network, target in zip([one, other], targets)]
        # Where the cells of the copy of the other network stand in the order of the columns of the one.
        self._turned = [targets[1].columns.index(name) for name in targets[0].columns]
        copies = [target.columns for network in (one, other) for target in network.targets]
        self._pools = Pools([one, other], [self._names, *copies])
        self._trail = Trail()

    def parting(self):
        """Look at the states in the order of the steps that they take, up to the first one that parts the copies."""
        for key in self._pools.key_samples:
            self._meet((key, *[flow.bare_spot() for flow in self._flows]), None, None)
        found = self._trail.search(self._go_on)
        if found is None:
            return Parting((), (False, False))
        at, (row, stopped) = found
        key, _, _ = self._trail.state(at)
        rows = [*self._trail.steps(at)[1:], row]
        return Parting(tuple([(key, cells_of(self._names, told)) for told in rows]), stopped)

    def _go_on(self, at):
        """Take each step from a state; returns the first that parts the copies as (row, stopped), otherwise None."""
        key, *spots = self._trail.state(at)
        for row in self._pools.rows_after(_all_rows(spots)):
            behind = [self._behind(flow, key, spot, row) for flow, spot in zip(self._flows, spots)]
            stopped = tuple([spot is None for spot in behind])
            # A step that both refuse is undone in both.
            if stopped == (True, True):
                continue
            if stopped != (False, False) or not self._is_alike(behind):
                return row, stopped
            self._meet((key, *behind), at, row)
        return None

    def _behind(self, flow, key, spot, row):
        """The spot behind a step in one network, None if it is refused."""
        try:
            behind, _ = flow.step(key, spot, row, flow.usual_order())
        except Stopped:
            return None
        return behind

    def _is_alike(self, spots):
        """Whether both copies hold the same."""
        one, other = [row_of(spot[place]) for spot, place in zip(spots, self._places)]
        if one is None or other is None:
            return one == other
        return one == tuple([other[place] for place in self._turned])

    def _meet(self, state, former, row):
        """Keep a state if it is new."""
        key, *spots = state
        holdings = tuple([holdings_of(spot) for spot in spots])
        self._trail.meet((key, holdings, self._pools.shape(_all_rows(spots))), state, former, row)


def _all_rows(spots):
    """The rows of the table, which both networks have, and of the copies of both."""
    rows = [rows_of(spot) for spot in spots]
    return rows[0] + rows[1][1:]
