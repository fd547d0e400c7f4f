"""Repairs: the least elder columns and the least turned habits that make a network right."""

import itertools
import random
import unittest

import run_model
from filteredcopies.errors import NoFeed, NoTarget, TooMany
from filteredcopies.filters import Filter, compare, is_empty
from filteredcopies.judging import judge
from filteredcopies.networks import Feed, Network, Target
from filteredcopies.repairs import least_elder, least_turns
from filteredcopies.rules import Rule
from filteredcopies.tables import Column, Table
from helpers import check_raises, check_time, the_example
from run_model import HABITS, OwnRule

A = Table.of(Column("a"))
BA = Table.of(Column("b"), Column("a"))


def single(where=None, elder=(), table=A, columns=None, rule=None, **habits):
    """A network with one feed."""
    target = Target("x", table.names if columns is None else columns, **habits)
    return Network(table, [target], [Feed("table", "x", where=where, elder=elder, rule=rule)])


class Elder(unittest.TestCase):
    def test_the_columns_of_the_filter(self):
        self.assertEqual(least_elder(the_example(), 0), [("amount",)])
        self.assertEqual(least_elder(single(compare("a", "<", 1), table=BA), 0), [("a",)])
        both = single(compare("a", "<", 1) & compare("b", "<", 1), table=BA, elder=["b"])
        self.assertEqual(least_elder(network=both, at=0), [("a", "b")])
        self.assertEqual(least_elder(single(compare("key", "<", 1), table=BA), 0), [()])

    def test_right_without_any(self):
        for elder in ([], ["a"]):
            self.assertEqual(least_elder(single(elder=elder), 0), [()])

    def test_no_choice_makes_it_right(self):
        self.assertEqual(least_elder(single(rule=lambda moves, whole: None), 0), [])

    def test_large_cells_that_must_be_sent(self):
        # Without elder columns a large cell of a row that enters is lost; as an elder one it is always sent.
        table = Table.of(Column("a"), Column("b", large=True))
        network = single(compare("a", ">=", 5), table=table)
        self.assertEqual(least_elder(network, 0), [("a", "b")])
        self.assertEqual(least_elder(network.turned("x", lacking="make", gone="skip"), 0), [("b",)])

    def test_several_choices(self):
        # The rule errs if it doubts and not all is sent: the sender must be told a, or always send b.
        for names in (["a", "b"], ["b", "a"]):
            columns = {"a": Column("a", large=True, fixed=True), "b": Column("b", large=True)}
            rule = Rule({(("stays", "away"), False): "take"})
            table = Table([columns[name] for name in names])
            network = single(compare("a", ">=", 5), table=table, columns=["b"], rule=rule, lacking="skip", gone="skip")
            self.assertEqual(least_elder(network, 0), [("a",), ("b",)])
            self.assertTrue(judge(network.with_elder(0, ["a", "b"])))

    def test_more_elder_columns_can_make_a_network_wrong(self):
        # The rule knows only the signals of a sender that is not told a.
        rule = OwnRule({
            ("stays", "enters"): "put", ("leaves", "away"): "take", ("enters",): "put", ("away",): None,
            ("stays",): None, ("leaves",): None,
        }, lambda moves, whole: None)
        network = single(compare("a", ">=", 5), rule=rule, present="replace", gone="skip")
        self.assertEqual(least_elder(network, 0), [()])
        self.assertFalse(judge(network.with_elder(0, ["a"])))
        self.assertEqual(least_elder(network.with_elder(0, ["a"]), 0), [()])

    def test_a_feed_of_a_copy(self):
        network = Network.of(
            BA, Target("x", ["a"]), Target("y", ["a"]), Feed("x", "y", where=compare("a", "<", 1)), Feed("table", "x"),
        )
        self.assertEqual(least_elder(network, 0), [("a",)])
        self.assertEqual(least_elder(network, 1), [])
        self.assertEqual(least_elder(network.with_elder(0, ["a"]), 1), [()])

    def test_errors(self):
        wide = single(compare("a", "<", 1) & compare("b", "<", 1) & compare("key", "<", 1), table=BA)
        self.assertEqual(wide.weight(), 96)
        for at in (-1, 1, 10 ** 39):
            check_raises(self, NoFeed, {"at": at}, least_elder, wide, at)
        check_raises(self, TooMany, {"size": 96}, least_elder, wide, 0)


class Turns(unittest.TestCase):
    def test_example_of_the_document(self):
        self.assertEqual(least_turns(the_example(), "big"), [(("gone", "skip"), ("lacking", "make"))])

    def test_right_without_any(self):
        self.assertEqual(least_turns(single(), "x"), [()])
        self.assertEqual(least_turns(network=single(gone="skip", shared="all"), name="x"), [()])

    def test_no_turns_make_it_right(self):
        self.assertEqual(least_turns(single(rule=lambda moves, whole: None), "x"), [])

    def test_all_of_the_smallest_number(self):
        # A put comes where a row is: both replace and merge write the cells of a whole message.
        rule = Rule({(("stays",), True): "put"})
        self.assertEqual(least_turns(single(rule=rule), "x"), [(("present", "merge"),), (("present", "replace"),)])
        self.assertEqual(least_turns(single(rule=rule, present="keep"), "x"), [
            (("present", "merge"),), (("present", "replace"),),
        ])

    def test_a_turn_has_another_value(self):
        network = the_example().turned("big", gone="skip", lacking="skip")
        self.assertEqual(least_turns(network, "big"), [(("lacking", "make"),)])

    def test_feeds_that_meet(self):
        network = Network.of(
            A, Target("y", ["a"]), Feed("table", "y", where=compare("a", "<", 5), elder=["a"]),
            Feed("table", "y", where=compare("a", ">=", 5), elder=["a"]),
        )
        self.assertEqual(network.weight(), 32)
        expected = [
            (("present", "merge"), ("shared", "all")), (("present", "replace"), ("shared", "all")),
        ]
        self.assertEqual(least_turns(network, "y"), expected)

    def test_one_target_of_several(self):
        network = Network.of(
            A, Target("x", ["a"]), Target("y", ["a"]), Feed("table", "x"),
            Feed("x", "y", where=compare("a", "<", 5)),
        )
        self.assertEqual(least_turns(network, "x"), [])
        self.assertEqual(least_turns(network, "y"), [(("gone", "skip"), ("lacking", "make"))])

    def test_errors(self):
        wide = single(compare("a", "<", 1) & compare("b", "<", 1) & compare("key", "<", 1), table=BA)
        for name in ("table", "y", "key", "X"):
            check_raises(self, NoTarget, {"name": name}, least_turns, wide, name)
        check_raises(self, TooMany, {"size": 96}, least_turns, wide, "x")
        check_raises(self, TooMany, {"size": 48}, least_turns, single(compare("a", "<", 1) & compare("a", "<", 2),
                     table=Table.of(Column("a"), Column("b"), Column("c"))), "x")


class Read(unittest.TestCase):
    def test_what_is_returned_is_new_and_the_network_stays(self):
        network = the_example()
        for call, part in ((least_elder, 0), (least_turns, "big")):
            first = call(network, part)
            self.assertIs(first.__class__, list)
            self.assertEqual({choice.__class__ for choice in first}, {tuple})
            first.append(None)
            self.assertEqual(call(network, part), first[:-1])
        self.assertEqual(network.feeds[0].elder, ())
        self.assertEqual(network.targets[0].habits.named()["gone"], "stop")


class SecondReading(unittest.TestCase):
    def networks(self, most):
        for seed in range(90):
            rnd = random.Random(seed)
            choices = {"wild": 0.4, "mild": rnd.choice([0.3, 0.6, 0.9]), "most_number": seed % 2, "parts": 2}
            draw = seed % 3
            if draw == 0:
                run = run_model.random_run(rnd, most_columns=3, most_targets=1, most_feeds=1, **choices)
            else:
                run = run_model.random_run(rnd, most_columns=2, most_targets=draw, most_feeds=2, **choices)
            network = run.network()
            if network.weight() <= most:
                yield seed, rnd, network

    def test_elder_choices_against_all_sets(self):
        found = []
        for seed, rnd, network in self.networks(64):
            at = rnd.randrange(len(network.feeds))
            names = sorted(network.columns_of(network.feeds[at].source))
            sets = [told for many in range(len(names) + 1) for told in itertools.combinations(names, many)]
            right = [told for told in sets if judge(network.with_elder(at, list(told)))]
            expected = [told for told in right if not any(set(less) < set(told) for less in right)]
            self.assertEqual(least_elder(network, at), expected, seed)
            found.append(len(expected))
        self.assertTrue({0, 1} <= set(found))

    def test_turns_against_all_choices(self):
        found = []
        for seed, rnd, network in self.networks(32):
            name = rnd.choice(network.targets).name
            habits = [target.habits.named() for target in network.targets if target.name == name][0]
            right = {}
            for values in itertools.product(*[HABITS[habit] for habit in sorted(HABITS)]):
                turned = dict(zip(sorted(HABITS), values))
                if judge(network.turned(name, **turned)):
                    turns = tuple((habit, value) for habit, value in turned.items() if habits[habit] != value)
                    right.setdefault(len(turns), []).append(turns)
            expected = sorted(right[min(right)]) if right else []
            self.assertEqual(least_turns(network, name), expected, seed)
            found.append(len(expected[0]) if expected else None)
        self.assertTrue({0, 1, None} <= set(found))

    def test_at_the_bounds_it_comes_to_its_end(self):
        table = Table.of(Column("a", empty=True), Column("b", empty=True, large=True), Column("c", empty=True))
        wide = single(compare("a", "<", 1) ^ compare("b", "<", 1), table=table)
        self.assertEqual(wide.weight(), 64)
        with check_time(self, 20):
            self.assertTrue(least_elder(wide, 0))
        small = single(is_empty("b") ^ compare("a", "<", 1), table=table)
        self.assertEqual(small.weight(), 32)
        shared = Network.of(A, Target("x", ["a"]), *[Feed("table", "x", where=where) for where in (
            compare("a", "<", 1), ~compare("a", "<", 1))])
        self.assertEqual(shared.weight(), 32)
        for network in (small, shared, single(Filter.nothing(), table=table)):
            for rule in (None, lambda moves, whole: None):
                with check_time(self, 20):
                    least_turns(network.with_rule(0, rule), "x")


if __name__ == "__main__":
    unittest.main()
