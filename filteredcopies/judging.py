"""Judging: whether the copies of a network are right for all histories, and a shortest history if they are not."""

from filteredcopies.copies import cells_of
from filteredcopies.errors import NoHolding, NoTarget, Stopped, TooMany
from filteredcopies.flows import STOPPED, Flow, fault_of, holdings_of, rows_of
from filteredcopies.plain import copied, same
from filteredcopies.pools import Pools
from filteredcopies.trails import Trail

MOST_WEIGHT = 128
MOST_SPAN = 60000


def judge(network, *, names=None):
    """Whether a network, or these of its copies, are right for all histories."""
    told = [target.name for target in network.targets]
    for name in told if names is None else names:
        if name not in told:
            raise NoTarget(name)
    size, most = network.weight(), MOST_WEIGHT
    if names is not None:
        size, most = network.span(2 + len(told)), MOST_SPAN
    if size > most:
        raise TooMany(size)
    search = Search(network, told if names is None else names)
    return search.verdict()


class Verdict:
    """Whether a network is right for all histories, and histories that show it."""

    def __init__(self, history, fault, shown):
        self._history = copied(history)
        self._shown = copied(shown)
        self.fault = fault
        self.key = history[0][0] if history else None
        self.holdings = tuple(sorted(shown))

    @property
    def history(self):
        """A shortest history whose last step is refused or leaves a copy wrong; empty if all is right."""
        return copied(self._history)

    def shown(self, holding):
        """A history behind which the holdings of its key are these."""
        for known in self.holdings:
            if same(known, holding):
                return copied(self._shown[known])
        raise NoHolding(holding)

    def __bool__(self):
        return self.fault is None

    def __len__(self):
        return len(self._history)


class Search:
    """A search of all histories of a network on one key, in which copies of these names must be right.

    Its states are tuples (key, spot).
    """

    def __init__(self, network, names):
        self._network = network
        self._must = [place for place, target in enumerate(network.targets) if target.name in names]
        self._flow = Flow(network)
        self._orders = orders_of(network)
        self._pools = Pools([network], [network.table.names, *[target.columns for target in network.targets]])
        self._trail = Trail()
        # For each holdings the first way to them: the index of a state, and the step from there.
        self._ways = {}

    def verdict(self):
        """Look at the states in the order of the steps that they take, up to the first wrong one."""
        for key in self._pools.key_samples:
            self._meet(key, self._flow.bare_spot(), None, None)
        found = self._trail.search(self._go_on)
        if found is not None:
            at, (step, fault) = found
            return Verdict(self._history_to(at, step), fault, {})
        shown = {}
        for holding in self._ways:
            at, step = self._ways[holding]
            shown[holding] = self._history_to(at, step)
        return Verdict((), None, shown)

    def _go_on(self, at):
        """Take each step from a state; returns the first one that is wrong as (step, fault), otherwise None."""
        key, spot = self._trail.state(at)
        for row in self._pools.rows_after(rows_of(spot)):
            for order in self._orders:
                step = (key, row, order)
                try:
                    behind, _ = self._flow.step(key, spot, row, order)
                except Stopped as stopped:
                    return step, (STOPPED, self._network.feeds[stopped.at].target)
                fault = self._fault(key, behind)
                if fault is not None:
                    return step, fault
                self._ways.setdefault(holdings_of(behind), (at, step))
                self._meet(key, behind, at, step)
        return None

    def _meet(self, key, spot, former, step):
        """Keep a state if it is new."""
        shape = (key, holdings_of(spot), self._pools.shape(rows_of(spot)))
        self._trail.meet(shape, (key, spot), former, step)

    def _fault(self, key, spot):
        """What is wrong with the first copy that must be right and is not, None if there is none."""
        rows = rows_of(spot)
        dues = self._flow.dues(key, spot[0])
        for place in self._must:
            fault = fault_of(rows[1 + place], dues[place])
            if fault is not None:
                return fault, self._network.targets[place].name
        return None

    def _history_to(self, at, last):
        """The steps that led to a state, and the last one from there."""
        steps = [*self._trail.steps(at)[1:], last]
        names = self._network.table.names
        return tuple([(key, cells_of(names, row), order) for key, row, order in steps])


def orders_of(network):
    """An order for each way to order the feeds of each target."""
    orders = [()]
    for target in network.targets:
        parts = permuted(network.feeds_to(target.name))
        orders = [(*order, *part) for order in orders for part in parts]
    return orders


def permuted(parts):
    """All tuples that have each of these parts once."""
    if not parts:
        return [()]
    found = []
    for at, part in enumerate(parts):
        found.extend([(part, *others) for others in permuted(parts[:at] + parts[at + 1:])])
    return found
