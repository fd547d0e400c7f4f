"""Guides: the deeds that are right for the signals of a network with one feed."""

import itertools
import random
import unittest

import run_model
import search_model
from filteredcopies.errors import NoRule, NoSignal, NotPlain, TooMany
from filteredcopies.filters import Filter, compare
from filteredcopies.guides import Guide
from filteredcopies.judging import judge
from filteredcopies.networks import Feed, Network, Target
from filteredcopies.rules import Rule
from filteredcopies.signals import signal
from filteredcopies.tables import Column, Table
from helpers import ANY_VALUES, check_raises, check_time, the_example
from run_model import DEEDS, OwnRule

STAYS, LEAVES, ENTERS, AWAY = "stays", "leaves", "enters", "away"
A = Table.of(Column("a"))


def single(where=None, elder=(), table=A, **habits):
    """A network with one feed, and a copy of all columns."""
    return Network(table, [Target("x", table.names, **habits)], [Feed("table", "x", where=where, elder=elder)])


def is_change(network, change):
    """Whether this is a change that the table can have."""
    key, before, after = change
    for cells in (before, after):
        if cells is not None:
            network.table.check(key, cells)
    both = before is not None and after is not None
    fixed = [column.name for column in network.table.columns if column.fixed]
    return (before, after) != (None, None) and not (both and any(before[name] != after[name] for name in fixed))


class Examples(unittest.TestCase):
    def test_example_of_the_document(self):
        guide = Guide(the_example())
        told, changes = guide.conflict()
        self.assertEqual([bool(guide), told, len(changes)], [False, ((LEAVES, AWAY), False), 2])
        self.assertEqual(guide.signals(), [
            ((AWAY,), True), ((ENTERS,), True), ((LEAVES, AWAY), False), ((LEAVES, AWAY), True),
            ((STAYS, ENTERS), True),
        ])
        for told, deeds in zip(guide.signals(), [(None,), ("put",), (), (), ()]):
            self.assertEqual(guide.deeds(told), deeds)

    def test_a_sender_that_is_told_all(self):
        guide = Guide(single(compare("a", ">=", 5), ["a"]))
        self.assertIs(bool(guide), True)
        self.assertIsNone(guide.conflict())
        rule = guide.best()
        self.assertIs(rule.__class__, Rule)
        self.assertEqual(rule.deeds(), {
            ((AWAY,), False): None, ((AWAY,), True): None, ((ENTERS,), True): "put", ((LEAVES,), False): "take",
            ((LEAVES,), True): "take", ((STAYS,), True): "change",
        })

    def test_the_own_rule_of_the_feed_does_not_count(self):
        network = single(compare("a", ">=", 5), ["a"])
        self.assertTrue(Guide(network.with_rule(0, lambda moves, whole: "take")))

    def test_best_is_the_first_right_deed(self):
        network = single(compare("a", ">=", 5), ["a"], present="replace", lacking="make", gone="skip")
        guide = Guide(network)
        self.assertEqual(guide.deeds(((STAYS,), True)), ("put", "change"))
        self.assertEqual(guide.deeds(((ENTERS,), True)), ("put", "change"))
        self.assertEqual(guide.deeds(((AWAY,), False)), ("take", None))
        self.assertEqual(guide.best().deeds()[((AWAY,), True)], "take")
        self.assertTrue(judge(network.with_rule(0, guide.best())))

    def test_a_put_without_a_row_after_the_change_makes_one_that_should_not_be(self):
        for columns in (["a"], []):
            network = Network(A, [Target("x", columns)], [Feed("table", "x", where=Filter.nothing())])
            self.assertEqual(Guide(network).deeds(((AWAY,), False)), (None,))

    def test_skipped_changes_are_right_where_there_is_no_row(self):
        guide = Guide(single(Filter.nothing(), lacking="skip"))
        self.assertEqual(guide.deeds(((AWAY,), False)), ("change", None))
        self.assertEqual(guide.deeds(((AWAY,), True)), ("change", None))

    def test_the_row_is_held_by_the_feed(self):
        guide = Guide(single(shared="all"))
        self.assertEqual(guide.deeds(((LEAVES,), False)), ("take",))
        self.assertTrue(judge(single(shared="all").with_rule(0, guide.best())))

    def test_only_one_integer_between_two_numbers(self):
        for high, deeds in ((5, ("change", None)), (6, ("change",))):
            guide = Guide(single(compare("a", ">", 3) & compare("a", "<", high), ["a"]))
            self.assertEqual(guide.deeds(((STAYS,), True)), deeds)

    def test_large_cells(self):
        table = Table.of(Column("a"), Column("b", large=True))
        guide = Guide(single(compare("a", ">=", 5), table=table, present="merge", lacking="make", gone="skip"))
        # The unsent cell of a row that enters is lost; a whole one is not.
        self.assertEqual(guide.deeds(((STAYS, ENTERS), False)), ())
        self.assertEqual(guide.deeds(((STAYS, ENTERS), True)), ("put", "change"))
        self.assertFalse(guide)

    def test_keys(self):
        # For some keys the row goes out of the filter, for others it comes in: the signals tell them apart.
        where = compare("key", "<", 3) ^ compare("a", "<", 1)
        guide = Guide(single(where, ["a"]))
        self.assertTrue(guide)
        for told in guide.signals():
            key, before, after = guide.example(told)
            self.assertEqual(signal(single(where, ["a"]), 0, key, before, after), told)


class Errors(unittest.TestCase):
    def test_not_plain_before_too_many(self):
        where = compare("a", "<", 1) & compare("b", "<", 1) & compare("c", "<", 1) & compare("key", "<", 1)
        table = Table.of(Column("a"), Column("b"), Column("c"))
        wide = single(where, table=table)
        for many in (2, 3, 4):
            network = Network(table, wide.targets, wide.feeds * many)
            check_raises(self, NotPlain, {"many": many}, Guide, network)
        chain = Network.of(table, Target("x", ["a"]), Target("y", []), Feed("table", "x", where=where), Feed("x", "y"))
        check_raises(self, NotPlain, {"many": 2}, Guide, chain)
        check_raises(self, TooMany, {"size": 384}, Guide, wide)
        two = single(compare("a", "<", 1) & compare("b", "<", 1), table=table)
        self.assertEqual(two.weight(), 64)
        self.assertIs(bool(Guide(two)), False)
        check_raises(self, TooMany, {"size": 96}, Guide, two.with_filter(0, two.feeds[0].where & compare("a", "<", 2)))

    def test_no_signal(self):
        guide = Guide(the_example())
        moves, whole = guide.signals()[2]
        near = [
            (moves, 0), (list(moves), whole), [moves, whole], (moves,), (moves, whole, whole), (moves, None), moves,
            (moves[::-1], whole), ((STAYS,), True), ((), False), ("away", True), (("away",), 1), ((True,), True),
        ]
        for value in ANY_VALUES + near:
            check_raises(self, NoSignal, {"signal": value}, guide.deeds, value)
            check_raises(self, NoSignal, {"signal": value}, guide.example, value)
            for deed in DEEDS:
                check_raises(self, NoSignal, {"signal": value}, guide.against, value, deed)
        self.assertEqual(guide.deeds(told=(moves, whole)), ())

    def test_no_rule(self):
        guide = Guide(the_example())
        told, changes = guide.conflict()
        check_raises(self, NoRule, {"signal": told, "changes": changes}, guide.best)


class Read(unittest.TestCase):
    def test_what_is_returned_is_new(self):
        guide, plain = Guide(the_example()), Guide(single(elder=["a"]))
        told = guide.signals()[2]
        def all_of():
            return repr((
                guide.signals(), guide.example(told), guide.against(told, "put"), guide.conflict(), plain.best().deeds(),
            ))
        first = all_of()
        guide.signals().clear()
        for change in (guide.example(told), guide.against(told, "put"), *guide.conflict()[1]):
            change[1].clear()
        plain.best().deeds().clear()
        with self.assertRaises(NoRule) as caught:
            guide.best()
        caught.exception.changes[0][1].clear()
        self.assertEqual(all_of(), first)
        self.assertEqual(repr(Guide(the_example()).conflict()), repr(guide.conflict()))

    def test_kinds_of_what_is_returned(self):
        guide = Guide(the_example())
        for told in guide.signals():
            self.assertEqual([part.__class__ for part in told], [tuple, bool])
            self.assertIs(guide.deeds(told).__class__, tuple)
            self.assertIs(guide.example(told).__class__, tuple)
        self.assertEqual([part.__class__ for part in guide.conflict()], [tuple, tuple])


class SecondReading(unittest.TestCase):
    def networks(self):
        for seed in range(120):
            rnd = random.Random(seed)
            choices = {"wild": 0.4, "mild": rnd.choice([0, 0.3, 0.6, 0.9]), "most_targets": 1, "most_feeds": 1}
            if seed % 5 < 3:
                run = run_model.random_run(rnd, most_columns=1, most_number=2, parts=3, **choices)
            else:
                run = run_model.random_run(rnd, most_columns=2, most_number=0, parts=2, key=0.1, **choices)
            if run.network().weight() <= 64:
                yield seed, rnd, run

    def test_all_changes_over_enough_integers(self):
        many = 0
        for seed, rnd, run in self.networks():
            network = run.network()
            guide = Guide(network)
            wrong = search_model.guided(run, DEEDS)
            self.assertEqual(guide.signals(), sorted(wrong), seed)
            for told in wrong:
                self.check_signal(run, guide, told, wrong[told], seed)
            many += not self.check_conflict(run, guide, wrong, seed)
            self.check_rules(rnd, network, guide, seed)
        self.assertGreater(many, 5)

    def check_signal(self, run, guide, told, wrong, seed):
        right = tuple(deed for deed in DEEDS if not any(deed in choice for choice in wrong))
        self.assertEqual(guide.deeds(told), right, seed)
        self.check_change(run, guide.example(told), told, seed)
        for deed in DEEDS:
            change = guide.against(told, deed)
            self.assertIs(change is None, deed in right, seed)
            if change is not None:
                self.check_change(run, change, told, seed)
                self.assertFalse(search_model.is_right_deed(run, deed, *change), seed)

    def check_change(self, run, change, told, seed):
        self.assertTrue(is_change(run.network(), change), seed)
        self.assertEqual(run.signal(0, *change), told, seed)

    def check_conflict(self, run, guide, wrong, seed):
        """Whether there is no conflict; one is checked against all choices of fewer changes."""
        without = [told for told in guide.signals() if not guide.deeds(told)]
        self.assertIs(bool(guide), not without, seed)
        if not without:
            self.assertIsNone(guide.conflict(), seed)
            self.assertEqual(guide.best().deeds(), {told: guide.deeds(told)[0] for told in guide.signals()}, seed)
            return True
        told, changes = guide.conflict()
        self.assertEqual(told, without[0], seed)
        for change in changes:
            self.check_change(run, change, told, seed)
        for deed in DEEDS:
            self.assertFalse(all(search_model.is_right_deed(run, deed, *change) for change in changes), seed)
        for fewer in itertools.combinations_with_replacement(wrong[told], len(changes) - 1):
            self.assertNotEqual({deed for choice in fewer for deed in choice}, set(DEEDS), seed)
        return False

    def check_rules(self, rnd, network, guide, seed):
        """A rule makes the network right just if its deeds are right for all signals that occur."""
        for _ in range(4):
            deeds = {}
            for told in guide.signals():
                deeds[told] = rnd.choice(guide.deeds(told) if guide.deeds(told) and rnd.random() < 0.9 else DEEDS)
            right = all(deeds[told] in guide.deeds(told) for told in deeds)
            rule = OwnRule(deeds, lambda moves, whole: "take")
            self.assertIs(bool(judge(network.with_rule(0, rule))), right, seed)

    def test_at_the_bound_it_comes_to_its_end(self):
        table = Table.of(Column("a", empty=True), Column("b", empty=True, large=True), Column("c", empty=True))
        wide = single(compare("a", "<", 1) ^ compare("b", "<", 1), table=table)
        long = single(Filter.every())
        for number in range(15):
            long = long.with_filter(0, long.feeds[0].where ^ compare("a", "<", 2 * number))
        for network in (wide, long):
            self.assertEqual(network.weight(), 64)
            for elder in ([], ["a"]):
                with check_time(self, 20):
                    guide = Guide(network.with_elder(0, elder))
                    self.assertTrue(all(guide.example(told) for told in guide.signals()))


if __name__ == "__main__":
    unittest.main()
