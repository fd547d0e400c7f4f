"""A second reading of networks, straight from the points 13, 15 and 26, with filters as formulas of `model`."""

import math

import model
from filteredcopies.networks import Feed, Network, Target
from filteredcopies.tables import Column, Table


class ModelNetwork:
    """Names of columns; targets as (name, columns); feeds as (source, target, formula)."""

    def __init__(self, names, targets, feeds):
        self.names, self.targets, self.feeds = names, targets, feeds

    def built(self):
        """The network of the package."""
        table = Table([Column(name, empty=True) for name in self.names])
        targets = [Target(name, columns) for name, columns in self.targets]
        feeds = [Feed(source, target, where=model.built(formula)) for source, target, formula in self.feeds]
        return Network(table, targets, feeds)

    def columns(self, source):
        return dict(self.targets).get(source, self.names)

    def let_through(self, name, key, cells):
        """Whether a row of the table is let through to the table or a target, in the words of point 15."""
        if name == "table":
            return True
        for source, target, formula in self.feeds:
            if target == name and self.let_through(source, key, cells):
                entry = {column: cells[column] for column in self.columns(source)}
                if model.truth_of(formula, key, entry) is True:
                    return True
        return False

    def ways(self, name):
        """The ways from the table to a target, each a list of formulas."""
        if name == "table":
            return [[]]
        return [
            [*way, formula] for source, target, formula in self.feeds if target == name for way in self.ways(source)
        ]

    def truth(self, name, key, cells):
        """The truth where the formulas are put together by & along each way and by | between the ways."""
        found = False
        for way in self.ways(name):
            along = True
            for formula in way:
                along = model.joined("&", along, model.truth_of(formula, key, cells))
            found = model.joined("|", found, along)
        return found

    def many_numbers(self, name):
        return len(model.numbers_of(name, *[formula for _, _, formula in self.feeds]))

    def arrangements(self):
        fed = [target for _, target, _ in self.feeds]
        return math.prod(math.factorial(fed.count(name)) for name, _ in self.targets)

    def weight(self):
        size = self.arrangements() * 2 ** len(self.feeds) * (1 + 2 * self.many_numbers("key"))
        return size * math.prod(2 + 2 * self.many_numbers(name) for name in self.names)

    def span(self, many):
        size = self.arrangements() * 2 ** (len(self.feeds) - len(self.targets)) * (1 + 2 * self.many_numbers("key"))
        return size * math.prod((3 + 2 * self.many_numbers(name)) ** many for name in self.names)


def random_network(random):
    """A network with random targets, feeds and formulas of the key and the columns of their sources."""
    names = ["a", "b", "c"][:random.randint(1, 3)]
    targets = []
    for name in ["x", "y", "z"][:random.randint(1, 3)]:
        targets.append((name, random.sample(names, random.randint(0, len(names)))))
    feeds = []
    reached = {"table": names}
    for name, columns in targets:
        feeds.append(random_feed(random, reached, name, columns))
        reached[name] = columns
    while len(feeds) < 4 and random.random() < 0.6:
        at = random.randrange(len(targets))
        feeds.append(random_feed(random, {"table": names, **dict(targets[:at])}, *targets[at]))
    random.shuffle(feeds)
    return ModelNetwork(names, targets, feeds)


def random_feed(random, reached, name, columns):
    source = random.choice([told for told in reached if set(columns) <= set(reached[told])])
    formula = model.random_formula(random, [*reached[source], "key"], random.randint(1, 3), 2)
    return source, name, formula
