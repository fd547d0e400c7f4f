"""Targets, feeds and networks: what they are made of, what is wrong, and what is let through."""

import itertools
import random
import unittest

import model
from filteredcopies.copies import Habits
from filteredcopies.errors import BadHabit, BadNetwork, BadTarget, NoFeed, NoTarget
from filteredcopies.filters import Filter, compare, is_empty
from filteredcopies.networks import Feed, Network, Target
from filteredcopies.rules import Rule, doubting, trusting
from filteredcopies.tables import Column, Table
from helpers import ANY_VALUES, INTEGERS, NEITHER, WORDS, check_raises
from network_model import random_network

TABLE = Table.of(Column("a"), Column("b", empty=True), Column("c", large=True))
A, B, KEY = compare("a", ">=", 5), compare("b", "<", 3), compare("key", "!=", 7)


def parts_of_target(target):
    return target.name, target.columns, target.habits.named()


def parts_of_feed(feed):
    """All of a feed; of the filter what tells it apart from the others here."""
    where = (feed.where.mentions(), [feed.where.numbers(name) for name in feed.where.mentions()])
    return feed.source, feed.target, where, feed.elder, feed.rule


def parts_of(network):
    return (
        network.table.names, [parts_of_target(target) for target in network.targets],
        [parts_of_feed(feed) for feed in network.feeds],
    )


class Targets(unittest.TestCase):
    def test_attributes(self):
        for columns in (["b", "a"], ("b", "a"), [], (), ["abcdefgh"]):
            for target in (Target("x", columns), Target(columns=columns, name="x")):
                self.assertEqual(target.name, "x")
                self.assertEqual(target.columns, tuple(columns))
                self.assertIs(target.columns.__class__, tuple)
                self.assertTrue(target.habits == Habits())

    def test_habits(self):
        for habits in ({"present": "keep"}, {"shared": "all", "gone": "skip", "lacking": "make", "present": "merge"}):
            self.assertTrue(Target("x", ["a"], **habits).habits == Habits(**habits))

    def test_words_are_names_but_table_and_key(self):
        for name in WORDS + ["tables", "tabl", "keys", "ke"]:
            self.assertEqual(Target(name, []).name, name)
        for value in NEITHER + INTEGERS + ["table", "key"]:
            check_raises(self, BadTarget, {"at": -1}, Target, value, ["a"])
            check_raises(self, BadTarget, {"at": -1}, Target, value, [value], present=value)

    def test_columns_that_are_no_words_or_key(self):
        for value in NEITHER + INTEGERS + ["key"]:
            check_raises(self, BadTarget, {"at": 0}, Target, "x", [value])
            check_raises(self, BadTarget, {"at": 0}, Target, "x", (value, value, "key"))
            check_raises(self, BadTarget, {"at": 2}, Target, "x", ["a", "b", value])
            check_raises(self, BadTarget, {"at": 1}, Target, "x", ("a", value, "a"))
        self.assertEqual(Target("x", ["table"]).columns, ("table",))

    def test_columns_that_stand_earlier_too(self):
        check_raises(self, BadTarget, {"at": 1}, Target, "x", ["a", "a"])
        check_raises(self, BadTarget, {"at": 2}, Target, "x", ("a", "b", "a"))
        check_raises(self, BadTarget, {"at": 2}, Target, "x", ["a", "b", "b", 5])
        check_raises(self, BadTarget, {"at": 3}, Target, "x", ["a", "b", "c", "a", "a"])

    def test_the_name_comes_before_columns_and_these_before_habits(self):
        check_raises(self, BadTarget, {"at": -1}, Target, None, ["a", "a"], gone="make")
        check_raises(self, BadTarget, {"at": 1}, Target, "x", ["a", "a"], gone="make")
        check_raises(self, BadHabit, {"habit": "gone"}, Target, "x", ["a", "b"], shared=None, gone="make")
        for value in ANY_VALUES:
            check_raises(self, BadHabit, {"habit": "lacking"}, Target, "x", [], lacking=value, shared=value)

    def test_later_changes_to_the_columns_have_no_effect(self):
        columns = ["a"]
        target = Target("x", columns)
        columns.append("b")
        self.assertEqual(target.columns, ("a",))


class Feeds(unittest.TestCase):
    def test_attributes(self):
        rule = Rule({})
        feed = Feed("table", "x", where=A, elder=["c", "a"], rule=rule)
        self.assertEqual((feed.source, feed.target, feed.elder), ("table", "x", ("a", "c")))
        self.assertTrue(feed.where == A)
        self.assertIs(feed.rule, rule)

    def test_defaults(self):
        for feed in (Feed("table", "x"), Feed(target="x", source="table", rule=None, where=None, elder=[])):
            self.assertEqual((feed.source, feed.target, feed.elder), ("table", "x", ()))
            self.assertTrue(feed.where == Filter.every())
            self.assertEqual(feed.where.mentions(), [])
            self.assertIs(feed.rule, trusting)

    def test_elder_is_ascending_each_once(self):
        for elder in (["c", "a", "b", "a"], ("b", "c", "a", "c"), ["a", "b", "c"]):
            feed = Feed("table", "x", elder=elder)
            self.assertEqual(feed.elder, ("a", "b", "c"))
            self.assertIs(feed.elder.__class__, tuple)

    def test_options_are_passed_by_name_only(self):
        with self.assertRaises(TypeError):
            Feed("table", "x", A)

    def test_later_changes_to_elder_have_no_effect(self):
        elder = ["b"]
        feed = Feed("table", "x", elder=elder)
        elder.append("a")
        self.assertEqual((feed.elder, elder), (("b",), ["b", "a"]))

    def test_each_rule(self):
        for rule in (doubting, trusting, Rule({}), lambda moves, whole: None):
            self.assertIs(Feed("table", "x", rule=rule).rule, rule)

    def test_a_feed_narrowed(self):
        feed = Feed("y", "x", where=A, elder=["c"], rule=doubting)
        narrow = feed >> B
        self.assertIs(narrow.__class__, Feed)
        self.assertEqual((narrow.source, narrow.target, narrow.elder), ("y", "x", ("c",)))
        self.assertIs(narrow.rule, doubting)
        self.assertTrue(narrow.where == A & B)
        self.assertEqual(parts_of_feed(feed), ("y", "x", (["a"], [[5]]), ("c",), doubting))
        self.assertEqual(B.mentions(), ["b"])
        for a, b in itertools.product((4, 5, None), (2, 3, None)):
            self.assertIs(narrow.where.truth(1, {"a": a, "b": b}), (A & B).truth(1, {"a": a, "b": b}))
        self.assertTrue((feed >> B >> KEY).where == A & B & KEY)
        self.assertTrue((Feed("table", "x") >> B).where == B)


class Made(unittest.TestCase):
    def check_bad(self, part, at, targets, feeds, table=TABLE):
        check_raises(self, BadNetwork, {"part": part, "at": at}, Network, table, targets, feeds)
        check_raises(self, BadNetwork, {"part": part, "at": at}, Network, feeds=feeds, targets=targets, table=table)
        check_raises(self, BadNetwork, {"part": part, "at": at}, Network.of, table, *feeds, *targets)

    def test_attributes(self):
        targets = [Target("y", ["b"]), Target("x", [])]
        feeds = [Feed("y", "x"), Feed("table", "y", where=A), Feed("table", "x")]
        for network in (
            Network(TABLE, targets, feeds), Network(feeds=feeds, table=TABLE, targets=targets),
            Network.of(TABLE, *targets, *feeds), Network.of(TABLE, *feeds, *targets),
            Network.of(TABLE, feeds[0], targets[0], feeds[1], targets[1], feeds[2]),
        ):
            self.assertIs(network.__class__, Network)
            self.assertTrue(network.table == TABLE)
            self.assertEqual((network.targets, network.feeds), (tuple(targets), tuple(feeds)))
            self.assertIs(network.targets.__class__, tuple)
            self.assertIs(network.feeds.__class__, tuple)

    def test_later_changes_to_the_lists_have_no_effect(self):
        targets, feeds = [Target("x", ["a"])], [Feed("table", "x")]
        network = Network(TABLE, targets, feeds)
        targets.append(Target("y", []))
        feeds.clear()
        self.assertEqual((len(network.targets), len(network.feeds)), (1, 1))
        self.assertTrue(network.filter_of("x") == Filter.every())

    def test_one_to_three_targets(self):
        four = [Target(name, []) for name in ("x", "y", "z", "w")]
        feeds = [Feed("table", target.name) for target in four]
        for many in (1, 2, 3):
            self.assertEqual(len(Network(TABLE, four[:many], feeds[:many]).targets), many)
        self.check_bad("targets", -1, [], [])
        self.check_bad("targets", -1, [], feeds)
        self.check_bad("targets", -1, four, feeds)
        self.check_bad("targets", -1, four[:1] * 4, [])

    def test_targets_with_the_name_of_an_earlier_one(self):
        x, y, other = Target("x", ["a"]), Target("y", []), Target("x", ["b"], gone="skip")
        feeds = [Feed("table", "x"), Feed("table", "y")]
        self.check_bad("targets", 1, [x, x], feeds)
        self.check_bad("targets", 1, [x, other, y], feeds)
        self.check_bad("targets", 2, [x, y, other], feeds)
        self.check_bad("targets", 2, [y, x, x], [])

    def test_targets_with_a_column_that_the_table_does_not_have(self):
        x, y = Target("x", ["a"]), Target("y", ["c", "d"])
        self.check_bad("targets", 0, [y, x], [Feed("table", "x"), Feed("table", "y")])
        self.check_bad("targets", 1, [x, y], [Feed("table", "x"), Feed("table", "y")])
        self.check_bad("targets", 0, [y, y, Target("y", ["e"])], [])
        self.check_bad("targets", 1, [x, Target("x", ["e"]), y], [])

    def test_one_to_four_feeds(self):
        feed = Feed("table", "x")
        for many in (1, 2, 3, 4):
            self.assertEqual(len(Network(TABLE, [Target("x", ["a"])], [feed] * many).feeds), many)
        self.check_bad("feeds", -1, [Target("x", ["a"])], [])
        self.check_bad("feeds", -1, [Target("x", ["a"])], [feed] * 5)
        self.check_bad("feeds", -1, [Target("x", ["a"]), Target("y", [])], [Feed("no", "no")] * 5)

    def check_feed(self, fits, feed):
        """Check whether a feed can stand between the table and these targets, in each place."""
        targets = [Target("x", ["a", "b"]), Target("y", ["a"]), Target("z", ["b"])]
        others = [Feed("table", target.name) for target in targets]
        for at in range(4):
            feeds = [*others[:at], feed, *others[at:]]
            if fits:
                self.assertIs(Network(TABLE, targets, feeds).feeds[at], feed)
            else:
                self.check_bad("feeds", at, targets, feeds)
                self.check_bad("feeds", min(at, 2), targets, [*others[:min(at, 2)], feed, feed])

    def test_feeds_lead_on(self):
        for source, target in itertools.product(["table", "x", "y", "z"], ["x", "y", "z"]):
            # The columns of z are no columns of y.
            self.check_feed((source, target) in [("x", "y"), ("x", "z")] or source == "table", Feed(source, target))

    def test_feeds_from_and_to_what_is_no_target(self):
        for name in ("w", "key", "", "TABLE", "X", "a"):
            self.check_feed(False, Feed(name, "x"))
            self.check_feed(False, Feed("table", name))
        self.check_feed(False, Feed("table", "table"))
        self.check_feed(False, Feed("x", "table"))

    def test_all_columns_of_a_target_are_columns_of_its_source(self):
        x, y = Target("x", ["a"]), Target("y", ["a", "b"])
        self.check_bad("feeds", 1, [x, y], [Feed("table", "x"), Feed("x", "y")])
        self.assertEqual(len(Network(TABLE, [y, x], [Feed("table", "y"), Feed("y", "x")]).feeds), 2)
        Network(TABLE, [x, Target("y", [])], [Feed("table", "x"), Feed("x", "y")])
        self.check_bad("feeds", 1, [Target("x", []), y], [Feed("table", "x"), Feed("x", "y")])

    def test_filters_mention_the_key_and_columns_of_the_source(self):
        for where in (A, B, KEY, is_empty("key"), is_empty("c") & A | B & KEY):
            self.check_feed(True, Feed("table", "x", where=where))
        for where in (compare("d", "=", 1), is_empty("d"), A & ~is_empty("x"), A | Filter.every() | is_empty("table")):
            self.check_feed(False, Feed("table", "x", where=where))
        for where in (A, B & KEY, Filter.nothing()):
            self.check_feed(True, Feed("x", "y", where=where))
        # The table has c, but not the source of the feed; the target of the feed need not have b.
        for where in (compare("c", "=", 1), A & is_empty("c")):
            self.check_feed(False, Feed("x", "y", where=where))

    def test_elder_columns_are_columns_of_the_source(self):
        self.check_feed(True, Feed("table", "y", elder=["a", "b", "c"]))
        self.check_feed(True, Feed("x", "y", elder=["b"]))
        for elder in (["key"], ["d"], ["a", "d"], ("a", "key"), ["A"], [""], ["table"]):
            self.check_feed(False, Feed("table", "y", elder=elder))
        self.check_feed(False, Feed("x", "y", elder=["c"]))
        self.check_feed(False, Feed("x", "y", elder=["a", "b", "c"]))

    def test_targets_without_a_feed(self):
        x, y, z = Target("x", []), Target("y", []), Target("z", [])
        self.check_bad("targets", 0, [x, y, z], [Feed("table", "y"), Feed("y", "z")])
        self.check_bad("targets", 1, [x, y, z], [Feed("table", "x"), Feed("x", "z")])
        self.check_bad("targets", 1, [x, y, z], [Feed("table", "x")] * 4)
        self.check_bad("targets", 2, [x, y, z], [Feed("table", "y"), Feed("x", "y"), Feed("table", "x")])

    def test_a_source_without_rows_of_its_own_needs_a_feed_too(self):
        x, y = Target("x", ["a"]), Target("y", ["a"])
        self.check_bad("targets", 0, [x, y], [Feed("x", "y")])

    def test_of_several_errors_the_first_is_raised(self):
        x, y, bad = Target("x", ["a"]), Target("y", ["a"]), Target("z", ["d"])
        wrong = Feed("table", "x", elder=["d"])
        self.check_bad("targets", -1, [x, x, bad, y], [wrong] * 5)
        self.check_bad("targets", 1, [x, x, bad], [])
        self.check_bad("targets", 1, [x, bad, x], [wrong] * 5)
        self.check_bad("feeds", -1, [x, y], [])
        self.check_bad("feeds", 0, [x, y], [wrong, Feed("y", "x")])
        self.check_bad("feeds", 1, [x, y], [Feed("table", "x"), Feed("y", "x"), wrong])
        self.check_bad("targets", 1, [x, y], [Feed("table", "x"), Feed("table", "x")])

    def test_several_feeds_may_be_alike(self):
        feed = Feed("table", "x", where=A)
        network = Network(TABLE, [Target("x", ["a"])], [feed, feed, Feed("table", "x", where=A)])
        self.assertEqual(len(network.feeds), 3)
        self.assertTrue(network.filter_of("x") == A)

    def test_columns_may_be_called_as_a_target_or_table(self):
        table = Table.of(Column("table"), Column("x"))
        network = Network.of(table, Target("x", ["x", "table"]), Feed("table", "x", elder=["x"]))
        self.assertEqual(network.columns_of("x"), ("x", "table"))
        self.assertEqual(network.columns_of("table"), ("table", "x"))

    def test_equal_to_nothing_of_another_class(self):
        target, feed = Target("x", ["a"]), Feed("table", "x")
        network = Network(TABLE, [target], [feed])
        for one in (target, feed, network):
            for value in ANY_VALUES + [TABLE, Habits(), Filter.every()]:
                self.assertFalse(one == value)
                self.assertFalse(value == one)
        self.assertFalse(target == feed or feed == network or network == target)


class Sizes(unittest.TestCase):
    def setUp(self):
        self.table = Table.of(Column("amount"), Column("note", large=True, empty=True))

    def network(self, *feeds, targets=("x",)):
        return Network(self.table, [Target(name, ["amount"]) for name in targets], list(feeds))

    def test_example_of_the_document(self):
        feed = Feed("table", "big", where=compare("amount", ">=", 5))
        network = Network(self.table, [Target("big", ["amount"])], [feed])
        self.assertEqual([network.weight(), network.span(2)], [16, 225])
        self.assertEqual(network.span(many=2), 225)

    def test_without_numbers(self):
        network = self.network(Feed("table", "x", where=is_empty("note") & ~Filter.nothing()))
        self.assertEqual(network.weight(), 2 * 1 * 2 * 2)
        self.assertEqual([network.span(many) for many in range(9)], [9 ** many for many in range(9)])

    def test_different_numbers_of_the_key_and_each_column(self):
        where = compare("key", "=", 1) & compare("key", ">", 2) | compare("amount", "<", 1)
        network = self.network(Feed("table", "x", where=where | compare("note", "=", 1) & compare("note", "!=", 1)))
        self.assertEqual(network.weight(), 2 * 5 * 4 * 4)
        self.assertEqual([network.span(0), network.span(1), network.span(8)], [5, 5 * 25, 5 * 25 ** 8])

    def test_numbers_of_all_feeds_together(self):
        one, other = compare("amount", "<", 1) & compare("key", "=", 3), compare("amount", ">", 1)
        feeds = [Feed("table", "x", where=one), Feed("x", "y", where=other), Feed("table", "y", where=one)]
        network = self.network(*feeds, targets=("x", "y"))
        self.assertEqual(network.weight(), 2 * 8 * 3 * 4 * 2)
        self.assertEqual(network.span(2), 2 * 2 * 3 * 25 * 9)

    def test_arrangements(self):
        for many, arrangements in ((1, 1), (2, 2), (3, 6), (4, 24)):
            network = self.network(*[Feed("table", "x")] * many)
            self.assertEqual(network.weight(), arrangements * 2 ** many * 4)
            self.assertEqual(network.span(1), arrangements * 2 ** (many - 1) * 9)
        network = self.network(*[Feed("table", "x"), Feed("table", "y")] * 2, targets=("x", "y"))
        self.assertEqual(network.weight(), 4 * 16 * 4)
        self.assertEqual(network.span(0), 4 * 4)

    def test_random_networks_against_the_model(self):
        draw = random.Random(131)
        for _ in range(300):
            told = random_network(draw)
            network = told.built()
            self.assertEqual(network.weight(), told.weight())
            for many in range(9):
                self.assertEqual(network.span(many), told.span(many))


class LetThrough(unittest.TestCase):
    def setUp(self):
        self.network = Network.of(
            TABLE, Target("x", ["b", "a"]), Target("y", ["a"]), Feed("table", "x", where=A),
            Feed("x", "y", where=B), Feed("table", "y", where=KEY),
        )

    def test_columns_of(self):
        self.assertEqual(self.network.columns_of("table"), ("a", "b", "c"))
        self.assertEqual(self.network.columns_of("x"), ("b", "a"))
        self.assertEqual(self.network.columns_of(source="y"), ("a",))
        for source in ("table", "x", "y"):
            self.assertIs(self.network.columns_of(source).__class__, tuple)

    def test_no_target(self):
        for name in ["z", "key", "a", "", "X", "tables"]:
            check_raises(self, NoTarget, {"name": name}, self.network.columns_of, name)
        for name in ["z", "key", "a", "", "table"]:
            check_raises(self, NoTarget, {"name": name}, self.network.filter_of, name)
            check_raises(self, NoTarget, {"name": name}, self.network.due, name, 1, {"a": 5, "b": None, "c": 1})
            check_raises(self, NoTarget, {"name": name}, self.network.turned, name)
            check_raises(self, NoTarget, {"name": name}, self.network.turned, name, gone="make", present=None)

    def test_filter_of(self):
        self.assertTrue(self.network.filter_of("x") == A)
        self.assertTrue(self.network.filter_of(name="y") == A & B | KEY)
        self.assertEqual(self.network.filter_of("x").mentions(), ["a"])
        self.assertEqual(self.network.filter_of("y").mentions(), ["a", "b", "key"])

    def test_filter_of_keeps_all_comparisons_of_the_ways(self):
        one, other = compare("a", "=", 1), compare("a", "=", 2)
        network = Network.of(
            TABLE, Target("x", ["a"]), Target("y", ["a"]), Target("z", ["a"]),
            Feed("table", "x", where=one), Feed("table", "x", where=Filter.every()), Feed("x", "y", where=other),
            Feed("table", "z", where=compare("a", "=", 3)),
        )
        self.assertEqual(network.filter_of("x").numbers("a"), [1])
        self.assertEqual(network.filter_of("y").numbers("a"), [1, 2])
        self.assertEqual(network.filter_of("z").numbers("a"), [3])
        # Where a is None, the filters are unknown: nothing else turns this into False or True.
        self.assertIs(network.filter_of("x").truth(1, {"a": None}), True)
        self.assertIsNone(network.filter_of("y").truth(1, {"a": None}))

    def test_due(self):
        row = {"a": 5, "b": 3, "c": 9}
        self.assertEqual(self.network.due("x", 7, row), {"b": 3, "a": 5})
        self.assertIsNone(self.network.due("y", 7, row))
        self.assertEqual(self.network.due("y", 8, row), {"a": 5})
        self.assertEqual(self.network.due(cells={**row, "b": 2}, key=7, name="y"), {"a": 5})
        self.assertIsNone(self.network.due("y", 7, {**row, "b": None}))
        self.assertIsNone(self.network.due("x", 1, {**row, "a": 4}))
        self.assertEqual(self.network.due("x", 1, {**row, "b": None}), {"a": 5, "b": None})
        self.assertEqual(row, {"a": 5, "b": 3, "c": 9})

    def test_due_of_a_copy_without_columns(self):
        network = Network.of(TABLE, Target("x", []), Feed("table", "x", where=A))
        self.assertEqual(network.due("x", 1, {"a": 5, "b": 1, "c": 1}), {})
        self.assertIsNone(network.due("x", 1, {"a": 4, "b": 1, "c": 1}))

    def test_due_is_new_each_time(self):
        row = {"a": 5, "b": 3, "c": 9}
        due = self.network.due("x", 1, row)
        due["a"] = 6
        self.assertEqual(self.network.due("x", 1, row), {"a": 5, "b": 3})
        self.assertEqual(row["a"], 5)

    def test_random_networks_against_the_model(self):
        draw = random.Random(132)
        counts = {True: 0, False: 0}
        for _ in range(250):
            told = random_network(draw)
            network = told.built()
            for name, columns in told.targets:
                self.assertEqual(network.columns_of(name), tuple(columns))
                chosen = network.filter_of(name)
                formulas = [formula for way in told.ways(name) for formula in way]
                self.assertEqual(chosen.mentions(), model.mentions_of(*formulas))
                for column in ("a", "b", "c", "key"):
                    self.assertEqual(chosen.numbers(column), model.numbers_of(column, *formulas))
                for _ in range(12):
                    key = draw.randint(-1, 3)
                    cells = {column: draw.choice([None, -1, 0, 1, 2, 3]) for column in told.names}
                    let = told.let_through(name, key, cells)
                    counts[let] += 1
                    self.assertIs((key, cells) in chosen, let)
                    self.assertIs(chosen.truth(key, cells), told.truth(name, key, cells))
                    due = {column: cells[column] for column in columns} if let else None
                    self.assertEqual(network.due(name, key, cells), due)
        self.assertGreater(min(counts.values()), 500)


class Changed(unittest.TestCase):
    def setUp(self):
        self.network = Network.of(
            TABLE, Target("x", ["a", "b"], gone="skip", shared="all"), Target("y", ["a"], present="keep"),
            Feed("table", "x", where=A, elder=["b"], rule=doubting), Feed("x", "y", where=B), Feed("table", "y"),
        )
        self.kept = parts_of(self.network)

    def tearDown(self):
        self.assertEqual(parts_of(self.network), self.kept)

    def check_changed(self, network, targets=(), feeds=()):
        """Check the network: it has these parts at these places, (place, parts), and else those of the old one."""
        names, old_targets, old_feeds = self.kept
        self.assertIs(network.__class__, Network)
        self.assertTrue(network.table == TABLE)
        expected = [dict(targets).get(at, old) for at, old in enumerate(old_targets)]
        self.assertEqual(parts_of(network)[1], expected)
        self.assertEqual(parts_of(network)[2], [dict(feeds).get(at, old) for at, old in enumerate(old_feeds)])

    def test_turned(self):
        habits = {"present": "stop", "lacking": "stop", "gone": "skip", "shared": "all"}
        self.check_changed(
            self.network.turned("x", lacking="make", shared="one"),
            targets=[(0, ("x", ("a", "b"), {**habits, "lacking": "make", "shared": "one"}))],
        )
        self.check_changed(self.network.turned("x"))
        other = {"present": "merge", "lacking": "skip", "gone": "skip", "shared": "all"}
        self.check_changed(self.network.turned("y", **other), targets=[(1, ("y", ("a",), other))])
        self.check_changed(self.network.turned(name="y", present="stop").turned("y", present="keep"))

    def test_turned_with_a_wrong_habit(self):
        for value in ANY_VALUES:
            check_raises(self, BadHabit, {"habit": "gone"}, self.network.turned, "x", gone=value)
            check_raises(self, BadHabit, {"habit": "lacking"}, self.network.turned, "y", shared=value, lacking=value)
        check_raises(self, NoTarget, {"name": "table"}, self.network.turned, "table", gone="make")

    def test_with_elder(self):
        where = (["a"], [[5]])
        for elder, kept in ((["c", "a", "c"], ("a", "c")), ((), ()), (["b"], ("b",))):
            self.check_changed(
                self.network.with_elder(0, elder), feeds=[(0, ("table", "x", where, kept, doubting))],
            )
        self.check_changed(
            self.network.with_elder(elder=["a"], at=1), feeds=[(1, ("x", "y", (["b"], [[3]]), ("a",), trusting))],
        )

    def test_with_rule(self):
        rule = Rule({})
        for told, kept in ((rule, rule), (None, trusting), (trusting, trusting)):
            self.check_changed(
                self.network.with_rule(0, told), feeds=[(0, ("table", "x", (["a"], [[5]]), ("b",), kept))],
            )
        self.check_changed(
            self.network.with_rule(rule=doubting, at=2), feeds=[(2, ("table", "y", ([], []), (), doubting))],
        )

    def test_with_filter(self):
        self.check_changed(
            self.network.with_filter(0, B & KEY),
            feeds=[(0, ("table", "x", (["b", "key"], [[3], [7]]), ("b",), doubting))],
        )
        changed = self.network.with_filter(where=None, at=1)
        self.check_changed(changed, feeds=[(1, ("x", "y", ([], []), (), trusting))])
        self.assertTrue(changed.feeds[1].where == Filter.every())
        self.assertTrue(changed.filter_of("y") == Filter.every())
        self.assertTrue(self.network.with_filter(0, None).feeds[0].where == Filter.every())

    def test_no_feed(self):
        for at in (-1, -3, 3, 4, 10 ** 39, -10 ** 39):
            check_raises(self, NoFeed, {"at": at}, self.network.with_elder, at, ["a"])
            check_raises(self, NoFeed, {"at": at}, self.network.with_elder, at, ["d"])
            check_raises(self, NoFeed, {"at": at}, self.network.with_rule, at, None)
            check_raises(self, NoFeed, {"at": at}, self.network.with_filter, at, compare("d", "=", 1))

    def test_wrong_elder_columns_and_filters(self):
        for at in range(3):
            for elder in (["d"], ["key"], ["a", "d"], [""]):
                check_raises(self, BadNetwork, {"part": "feeds", "at": at}, self.network.with_elder, at, elder)
            for where in (compare("d", "=", 1), A & is_empty("d")):
                check_raises(self, BadNetwork, {"part": "feeds", "at": at}, self.network.with_filter, at, where)
        # The table has c, but not x, from which the second feed comes.
        check_raises(self, BadNetwork, {"part": "feeds", "at": 1}, self.network.with_elder, 1, ["c"])
        check_raises(self, BadNetwork, {"part": "feeds", "at": 1}, self.network.with_filter, 1, is_empty("c"))
        self.assertEqual(self.network.with_elder(2, ["c"]).feeds[2].elder, ("c",))

    def test_later_changes_to_elder_have_no_effect(self):
        elder = ["a"]
        changed = self.network.with_elder(0, elder)
        elder.append("d")
        self.assertEqual((changed.feeds[0].elder, elder), (("a",), ["a", "d"]))


if __name__ == "__main__":
    unittest.main()
