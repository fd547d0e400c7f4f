"""Networks: a table, copies that follow it, and the feeds between them."""

from math import factorial

from filteredcopies.copies import Habits
from filteredcopies.errors import BadNetwork, BadTarget, NoFeed, NotPlain, NoTarget
from filteredcopies.filters import Filter
from filteredcopies.plain import is_word
from filteredcopies.rules import trusting
from filteredcopies.tables import Table

TABLE = "table"
MOST_TARGETS = 3
MOST_FEEDS = 4


class Target:
    """A description of a copy: its name, columns and habits."""

    def __init__(self, name, columns, **habits):
        if not is_word(name) or name in (TABLE, Table.KEY):
            raise BadTarget(-1)
        for at, column in enumerate(columns):
            if not is_word(column) or column == Table.KEY or column in columns[:at]:
                raise BadTarget(at)
        self.name = name
        self.columns = tuple(columns)
        self.habits = Habits(**habits)


class Feed:
    """A way from the table or a target to a later target: its filter, elder columns and rule."""

    def __init__(self, source, target, *, where=None, elder=(), rule=None):
        self.source = source
        self.target = target
        self.where = Filter.every() if where is None else where
        self.elder = tuple(sorted(set(elder)))
        self.rule = trusting if rule is None else rule

    def __rshift__(self, other):
        return Feed(self.source, self.target, where=self.where & other, elder=self.elder, rule=self.rule)


class Network:
    """A table, targets and feeds. What changes a network gives a new one."""

    def __init__(self, table, targets, feeds):
        _check_targets(table, targets)
        _check_feeds(table, targets, feeds)
        self.table = table
        self.targets = tuple(targets)
        self.feeds = tuple(feeds)

    @classmethod
    def of(cls, table, *parts):
        """The network with these targets and feeds, each kind in its order."""
        targets = [part for part in parts if isinstance(part, Target)]
        feeds = [part for part in parts if isinstance(part, Feed)]
        return cls(table, targets, feeds)

    def weight(self):
        """A measure of how much a search of all histories has to look at."""
        size = self.arrangements() * (1 + 2 * len(self.numbers(Table.KEY)))
        for name in self.table.names:
            size = size * (2 + 2 * len(self.numbers(name)))
        return size << len(self.feeds)

    def span(self, many):
        """Likewise, for searches that compare so many cells of each column with one another."""
        return joint_span([self], many)

    def arrangements(self):
        """In how many ways the feeds of each target can be ordered."""
        size = 1
        for target in self.targets:
            size = size * factorial(len(self.feeds_to(target.name)))
        return size

    def numbers(self, name):
        """The numbers with which the filters compare the key or the column of this name, ascending."""
        return sorted({number for feed in self.feeds for number in feed.where.numbers(name)})

    def feeds_to(self, name):
        """The indexes of the feeds to the target of this name, ascending."""
        return [at for at, feed in enumerate(self.feeds) if feed.target == name]

    def feed_at(self, at):
        """The feed with this index."""
        if not 0 <= at < len(self.feeds):
            raise NoFeed(at)
        return self.feeds[at]

    def target_of(self, name):
        """The target of this name."""
        for target in self.targets:
            if target.name == name:
                return target
        raise NoTarget(name)

    def columns_of(self, source):
        """The names of the columns of the table or of a copy."""
        if source == TABLE:
            return self.table.names
        return self.target_of(source).columns

    def filter_of(self, name):
        """The filter with just the entries of the table that are let through to the target."""
        chosen = None
        for at in self.feeds_to(self.target_of(name).name):
            feed = self.feeds[at]
            way = feed.where
            if feed.source != TABLE:
                way = self.filter_of(feed.source) & way
            chosen = way if chosen is None else chosen | way
        return chosen

    def due(self, name, key, cells):
        """The cells that the copy must have for a row of the table, None if the row is not let through."""
        if (key, cells) not in self.filter_of(name):
            return None
        return {column: cells[column] for column in self.columns_of(name)}

    def turned(self, name, **habits):
        """The network in which a target has some other habits."""
        target = self.target_of(name)
        told = target.habits.turned(**habits).named()
        changed = Target(target.name, target.columns, **told)
        targets = [changed if part.name == name else part for part in self.targets]
        return Network(self.table, targets, self.feeds)

    def with_elder(self, at, elder):
        """The network in which a feed has these elder columns."""
        feed = self.feed_at(at)
        return self._with_feed(at, Feed(feed.source, feed.target, where=feed.where, elder=elder, rule=feed.rule))

    def with_rule(self, at, rule):
        """The network in which a feed has this rule."""
        feed = self.feed_at(at)
        return self._with_feed(at, Feed(feed.source, feed.target, where=feed.where, elder=feed.elder, rule=rule))

    def with_filter(self, at, where):
        """The network in which a feed has this filter."""
        feed = self.feed_at(at)
        return self._with_feed(at, Feed(feed.source, feed.target, where=where, elder=feed.elder, rule=feed.rule))

    def _with_feed(self, at, feed):
        """The network with another feed in this place."""
        feeds = [*self.feeds[:at], feed, *self.feeds[at + 1:]]
        return Network(self.table, self.targets, feeds)


def joint_span(networks, many):
    """The span of several networks over one table, taken together: each different number counts once."""
    size = 1
    for network in networks:
        size = (size * network.arrangements()) << (len(network.feeds) - len(network.targets))
    size = size * (1 + 2 * len(joint_numbers(networks, Table.KEY)))
    for name in networks[0].table.names:
        for _ in range(many):
            size = size * (3 + 2 * len(joint_numbers(networks, name)))
    return size


def joint_numbers(networks, name):
    """The numbers with which filters of these networks compare the key or a column, ascending."""
    return sorted({number for network in networks for number in network.numbers(name)})


def check_single(network):
    """Raise an error unless the network has one feed."""
    if len(network.feeds) != 1:
        raise NotPlain(len(network.feeds))


def _check_targets(table, targets):
    """Raise an error unless these can be the targets of a network."""
    if not 1 <= len(targets) <= MOST_TARGETS:
        raise BadNetwork("targets", -1)
    names = []
    for at, target in enumerate(targets):
        if target.name in names or not _has_all(table.names, target.columns):
            raise BadNetwork("targets", at)
        names.append(target.name)


def _check_feeds(table, targets, feeds):
    """Raise an error unless these can be the feeds between these targets."""
    if not 1 <= len(feeds) <= MOST_FEEDS:
        raise BadNetwork("feeds", -1)
    for at, feed in enumerate(feeds):
        if not _fits(feed, table, targets):
            raise BadNetwork("feeds", at)
    fed = [feed.target for feed in feeds]
    for at, target in enumerate(targets):
        if target.name not in fed:
            raise BadNetwork("targets", at)


def _fits(feed, table, targets):
    """Whether a feed leads on to a target and uses only columns of its source."""
    # The columns of the sources that stand before the target.
    columns = {TABLE: table.names}
    for target in targets:
        if target.name == feed.target:
            mentioned = [name for name in feed.where.mentions() if name != Table.KEY]
            used = [*target.columns, *feed.elder, *mentioned]
            return feed.source in columns and _has_all(columns[feed.source], used)
        columns[target.name] = target.columns
    return False


def _has_all(columns, names):
    """Whether all names are among the columns."""
    return all([name in columns for name in names])
