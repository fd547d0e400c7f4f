"""A second, slow reading of signals and runs, straight from the points 17 to 23, one key at a time.

Columns are tuples (name, large, fixed, empty); targets are (name, columns, habits); feeds are (source, target,
formula, elder, rule), with formulas of `model`. Rows are dicts, and None where there is no row.
"""

import copy
import itertools

import model
from copy_model import ModelCopy
from filteredcopies.networks import Feed, Network, Target
from filteredcopies.rules import doubting, trusting
from filteredcopies.tables import Column, Table

MOVES = ["stays", "leaves", "enters", "away"]


class Stop(Exception):
    """A message was refused: the feed, the message and the row that the copy had then."""


class ModelRun:
    """A network of tuples, and what the table and the copies have at each key."""

    def __init__(self, columns, targets, feeds):
        self.columns, self.targets, self.feeds = columns, targets, feeds
        self.flags = {name: flags for name, *flags in columns}
        self.table = {}
        self.copies = {name: ModelCopy(names, **habits) for name, names, habits in targets}
        self.log = []
        self.signals = {}

    def network(self):
        """The network of the package."""
        table = Table([Column(name, large=large, fixed=fixed, empty=empty) for name, large, fixed, empty in self.columns])
        targets = [Target(name, names, **habits) for name, names, habits in self.targets]
        feeds = [
            Feed(source, target, where=model.built(formula), elder=elder, rule=rule)
            for source, target, formula, elder, rule in self.feeds
        ]
        return Network(table, targets, feeds)

    def names_of(self, source):
        """The names of the columns of the table or of a target."""
        if source == "table":
            return [name for name, *_ in self.columns]
        return [names for name, names, _ in self.targets if name == source][0]

    # Point 17.
    def unsent(self, at, before, after):
        """The names of the columns that are not sent."""
        if before is None or after is None:
            return []
        elder = self.feeds[at][3]
        return [name for name in after if self.flags[name][0] and name not in elder and before[name] == after[name]]

    def view(self, at, before, after):
        elder = self.feeds[at][3]
        old = None if before is None else {name: before[name] for name in before if name in elder}
        unsent = self.unsent(at, before, after)
        new = None if after is None else {name: after[name] for name in after if name not in unsent}
        return old, new

    # Point 18.
    def possible_cells(self, name, formula):
        """All that a cell which is not told can be, as far as the filter can tell."""
        return model.integers_around(name, formula) + ([None] if self.flags[name][2] else [])

    def moves(self, at, key, before, after):
        source, _, formula, _, _ = self.feeds[at]
        names = self.names_of(source)
        unsent = self.unsent(at, before, after)
        found = set()
        for olds in itertools.product(*[self.cells_before(at, name, before, after) for name in names]):
            for news in itertools.product(*[self.cells_after(at, name, before, after) for name in names]):
                old = None if before is None else dict(zip(names, olds))
                new = None if after is None else dict(zip(names, news))
                if all(old[name] == new[name] for name in unsent):
                    was, is_in = (row is not None and model.truth_of(formula, key, row) is True for row in (old, new))
                    found.add("stays" if was and is_in else "leaves" if was else "enters" if is_in else "away")
        return tuple(move for move in MOVES if move in found)

    def cells_before(self, at, name, before, after):
        """The cells that the sender thinks a column can have before a change."""
        if before is None:
            return [None]
        if name in self.feeds[at][3]:
            return [before[name]]
        if after is not None and self.flags[name][1] and name not in self.unsent(at, before, after):
            return [after[name]]
        return self.possible_cells(name, self.feeds[at][2])

    def cells_after(self, at, name, before, after):
        """Likewise behind it."""
        if after is None:
            return [None]
        if name in self.unsent(at, before, after):
            return self.possible_cells(name, self.feeds[at][2])
        return [after[name]]

    # Point 19.
    def signal(self, at, key, before, after):
        told = (at, key, repr(before), repr(after))
        if told not in self.signals:
            target = self.feeds[at][1]
            unsent = self.unsent(at, before, after)
            whole = after is not None and not any(name in unsent for name in self.names_of(target))
            self.signals[told] = (self.moves(at, key, before, after), whole)
        return self.signals[told]

    # Point 20.
    def sent(self, at, key, before, after):
        """The message as (deed, key, cells), or None."""
        rule = self.feeds[at][4]
        return self.sent_by(rule(*self.signal(at, key, before, after)), at, key, before, after)

    def sent_by(self, deed, at, key, before, after):
        if deed is None:
            return None
        cells = {}
        if deed != "take" and after is not None:
            unsent = self.unsent(at, before, after)
            cells = {name: after[name] for name in self.names_of(self.feeds[at][1]) if name not in unsent}
        return deed, key, cells

    # Points 21 and 22.
    def row(self, name, key):
        if name == "table":
            return self.table.get(key)
        held = self.copies[name].held
        return dict(held[key][0]) if key in held else None

    def apply(self, at, message):
        """Apply a message, or raise Stop."""
        deed, key, cells = message
        name = self.feeds[at][1]
        if not self.copies[name].apply(deed, key, cells, at):
            raise Stop(at, message, self.row(name, key))

    def step(self, key, cells, order=()):
        """The (feed, message) of a step; it raises Stop and undoes all if one is refused."""
        kept = (dict(self.table), copy.deepcopy(self.copies))
        before = self.table.get(key)
        if cells is None:
            del self.table[key]
        else:
            self.table[key] = dict(cells)
        try:
            sent = self.go_on(key, {"table": (before, self.table.get(key))}, 0, order)
        except Stop:
            self.table, self.copies = kept
            raise
        self.log += sent
        return sent

    def go_on(self, key, changes, first, order=()):
        """Go through the targets from this one on; changes are (before, after) of the sources that changed."""
        sent = []
        for name, _, _ in self.targets[first:]:
            before = self.row(name, key)
            for at in order or range(len(self.feeds)):
                source, target, *_ = self.feeds[at]
                if target == name and source in changes:
                    message = self.sent(at, key, *changes[source])
                    if message is not None:
                        self.apply(at, message)
                        sent.append((at, message))
            if self.row(name, key) != before:
                changes = {**changes, name: (before, self.row(name, key))}
        return sent

    # Point 23.
    def renew(self, at, formula):
        """The (feed, message) of a renewal; it raises Stop and undoes all if one is refused."""
        kept = copy.deepcopy(self.copies)
        source, target, old, elder, rule = self.feeds[at]
        place = [name for name, _, _ in self.targets].index(target)
        sent = []
        try:
            for key in sorted(self.table if source == "table" else self.copies[source].held):
                row = self.row(source, key)
                was, is_in = model.truth_of(old, key, row) is True, model.truth_of(formula, key, row) is True
                if was == is_in:
                    continue
                message = ("put", key, {name: row[name] for name in self.names_of(target)}) if is_in else ("take", key, {})
                before = self.row(target, key)
                self.apply(at, message)
                sent.append((at, message))
                after = self.row(target, key)
                sent += self.go_on(key, {} if before == after else {target: (before, after)}, place + 1)
        except Stop:
            self.copies = kept
            raise
        self.feeds = [*self.feeds[:at], (source, target, formula, elder, rule), *self.feeds[at + 1:]]
        self.log += sent
        self.signals = {}
        return sent

    # Points 15 and 16.
    def let_through(self, name, key):
        if name == "table":
            return True
        for source, target, formula, *_ in self.feeds:
            if target == name and self.let_through(source, key):
                cells = {column: self.table[key][column] for column in self.names_of(source)}
                if model.truth_of(formula, key, cells) is True:
                    return True
        return False

    def fault(self, name, key):
        row = self.row(name, key)
        if key not in self.table or not self.let_through(name, key):
            return None if row is None else "left over"
        if row is None:
            return "lacks"
        return None if all(row[column] == self.table[key][column] for column in self.names_of(name)) else "unlike"

    def faults(self):
        found = []
        for name, _, _ in self.targets:
            for key in sorted({*self.table, *self.copies[name].held}):
                fault = self.fault(name, key)
                if fault is not None:
                    found.append((name, key, fault))
        return found

    def holdings(self, key):
        return tuple(
            tuple(sorted(self.copies[name].held[key][1])) if key in self.copies[name].held else ()
            for name, _, _ in self.targets
        )


HABITS = {
    "present": ["stop", "keep", "replace", "merge"], "lacking": ["stop", "skip", "make"], "gone": ["stop", "skip"],
    "shared": ["one", "all"],
}
DEEDS = ["put", "change", "take", None]


class OwnRule:
    """A rule with own deeds for some signals: (moves, whole), or moves alone; otherwise a plain one."""

    def __init__(self, deeds, otherwise):
        self.deeds, self.otherwise = deeds, otherwise

    def __call__(self, moves, whole):
        for signal in ((moves, whole), moves):
            if signal in self.deeds:
                return self.deeds[signal]
        return self.otherwise(moves, whole)


def random_rule(random, wild):
    """A plain rule, and if it is wild one with own deeds for some moves."""
    plain = random.choice([trusting, trusting, doubting])
    if random.random() > wild:
        return plain
    deeds = {}
    for many in range(1, 5):
        for moves in itertools.combinations(MOVES, many):
            for whole in (False, True):
                if random.random() < 0.3:
                    deeds[(moves, whole)] = random.choice(DEEDS)
    return OwnRule(deeds, plain)


def random_columns(random, most):
    flag = [False, False, True]
    return [
        (name, random.choice(flag), random.choice(flag), random.choice(flag))
        for name in ["a", "b", "c"][:random.randint(1, most)]
    ]


def random_habits(random, mild):
    """Habits that mostly accept all messages if they are mild."""
    soft = {"present": ["keep", "replace", "merge"], "lacking": ["skip", "make"], "gone": ["skip"], "shared": ["one", "all"]}
    return {habit: random.choice(soft[habit] if random.random() < mild else HABITS[habit]) for habit in HABITS}


def random_run(random, most_columns=2, most_targets=2, most_feeds=3, parts=2, most_number=2, mild=0.7, wild=0.3, key=0.2):
    """A network with random columns, targets, feeds, formulas and rules."""
    columns = random_columns(random, most_columns)
    names = [name for name, *_ in columns]
    targets = []
    for name in ["x", "y", "z"][:random.randint(1, most_targets)]:
        targets.append((name, random.sample(names, random.randint(min(1, random.randint(0, 3)), len(names))), random_habits(random, mild)))
    feeds = []
    reached = {"table": names}
    for name, told, _ in targets:
        feeds.append(random_feed(random, reached, name, told, parts, most_number, wild, key))
        reached[name] = told
    while len(feeds) < most_feeds and random.random() < 0.5:
        at = random.randrange(len(targets))
        sources = {"table": names, **{name: told for name, told, _ in targets[:at]}}
        feeds.append(random_feed(random, sources, *targets[at][:2], parts, most_number, wild, key))
    random.shuffle(feeds)
    return ModelRun(columns, targets, feeds)


def random_feed(random, reached, name, columns, parts, most_number, wild, key):
    source = random.choice([told for told in reached if set(columns) <= set(reached[told])])
    mentioned = [*reached[source], *(["key"] if random.random() < key or not reached[source] else [])]
    formula = model.random_formula(random, mentioned, random.randint(1, parts), most_number)
    if random.random() < 0.25:
        formula = ("every",)
    elder = sorted(random.sample(reached[source], random.randint(0, len(reached[source]))))
    return source, name, formula, elder, random_rule(random, wild)


def random_cells(random, run, key):
    """Cells for a step at the key, or None if there is a row to remove."""
    row = run.table.get(key)
    if row is not None and random.random() < 0.3:
        return None
    cells = {}
    for name, _, fixed, empty in run.columns:
        cells[name] = random.choice([-1, 0, 1, 2, 3] + ([None] if empty else []))
        if row is not None and (fixed or random.random() < 0.4):
            cells[name] = row[name]
    return cells


def is_plain(run):
    """Whether no target has several feeds."""
    fed = [target for _, target, *_ in run.feeds]
    return len(fed) == len(set(fed))
