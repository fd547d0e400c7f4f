"""Comparing: copies of two networks over equal tables."""

import inspect
import random
import unittest

import model
import run_model
import search_model
from filteredcopies.comparing import Parting, compare_copies
from filteredcopies.errors import BadPair, NoTarget, Stopped, TooMany
from filteredcopies.filters import Filter, compare, is_empty
from filteredcopies.networks import Feed, Network, Target
from filteredcopies.rules import Rule, doubting
from filteredcopies.runs import Run
from filteredcopies.tables import Column, Table
from helpers import check_raises, check_time
from run_model import ModelRun, OwnRule

A = Table.of(Column("a"))
MILD = {"present": "replace", "lacking": "make", "gone": "skip"}


def single(where=None, elder=("a",), table=A, columns=None, rule=None, name="x", **habits):
    """A network with one feed."""
    target = Target(name, table.names if columns is None else columns, **habits)
    return Network(table, [target], [Feed("table", name, where=where, elder=elder, rule=rule)])


class Checked(unittest.TestCase):
    def check_parting(self, one, other, names, about=None):
        """Compare two copies and check by two runs what the answer says."""
        parting = compare_copies(one, other, names=names)
        self.assertIsInstance(parting, Parting)
        self.assertIs(bool(parting), len(parting) == 0, about)
        self.assertEqual(len(parting.history), len(parting), about)
        self.assertIs(parting.history.__class__, tuple, about)
        if parting:
            self.assertEqual((parting.history, parting.key, parting.stopped), ((), None, (False, False)), about)
            return parting
        runs = [Run(one), Run(other)]
        for at, (key, cells) in enumerate(parting.history, 1):
            self.assertEqual(key, parting.key, about)
            stopped = tuple(self.stops(run, key, cells) for run in runs)
            parted = stopped != (False, False) or runs[0].rows(names[0]) != runs[1].rows(names[1])
            self.assertIs(parted, at == len(parting), about)
        self.assertEqual(parting.stopped, stopped, about)
        return parting

    def stops(self, run, key, cells):
        """Whether a run refuses a step."""
        try:
            run.step(key, cells)
        except Stopped:
            return True
        return False


class Alike(Checked):
    def test_example_of_the_document(self):
        table = Table.of(Column("amount"))
        small, big = Target("small", ["amount"]), Target("big", ["amount"])
        first = Feed("table", "small", where=compare("amount", ">=", 3), elder=["amount"])
        second = Feed("small", "big", where=compare("amount", ">=", 5), elder=["amount"])
        chain = Network.of(table, small, big, first, second)
        single_feed = Feed("table", "big", where=compare("amount", ">=", 5), elder=["amount"])
        other = Network.of(table, big, single_feed)
        self.assertIs(bool(self.check_parting(chain, other, ("big", "big"))), True)
        parting = self.check_parting(chain, other, ("small", "big"))
        self.assertEqual((len(parting), parting.stopped), (1, (False, False)))
        self.assertIn(parting.history[0][1]["amount"], (3, 4))
        # If no sender is told the amount, and the first copy cannot say it either.
        late = chain.with_elder(0, [])
        self.assertEqual(self.check_parting(late, other, ("big", "big")).stopped, (True, False))

    def test_a_network_and_itself(self):
        network = single(compare("a", "<", 5), elder=())
        self.assertIs(bool(self.check_parting(network, network, ("x", "x"))), True)

    def test_filters_that_differ_for_one_integer(self):
        for number in (0, 10 ** 30 - 1, -(10 ** 30) + 1):
            one, other = single(compare("a", "<", number)), single(compare("a", "<=", number))
            parting = self.check_parting(one, other, ("x", "x"))
            self.assertEqual(parting.history, ((parting.key, {"a": number}),))
        one = single(compare("a", ">", 3) & compare("a", "<", 5))
        self.assertTrue(self.check_parting(one, single(compare("a", "=", 4)), ("x", "x")))

    def test_keys(self):
        one, other = single(compare("key", "<", 7)), single(compare("key", "<=", 7))
        self.assertEqual(self.check_parting(one, other, ("x", "x")).key, 7)

    def test_names_and_the_order_of_columns_do_not_matter(self):
        table = Table.of(Column("a"), Column("b"))
        one = single(compare("a", "<", 5), table=table, columns=["a", "b"])
        other = single(compare("a", "<", 5), table=table, columns=["b", "a"], name="y")
        self.assertTrue(self.check_parting(one, other, ("x", "y")))
        swapped = other.with_rule(0, Rule({(("stays",), True): None}))
        self.assertEqual(len(self.check_parting(one, swapped, ("x", "y"))), 2)

    def test_copies_without_columns(self):
        one = single(compare("a", "<", 5), columns=[])
        other = single(~compare("a", ">=", 5), columns=[], **MILD, elder=())
        self.assertTrue(self.check_parting(one, other, ("x", "x")))
        self.assertEqual(len(self.check_parting(one, single(columns=[]), ("x", "x"))), 1)

    def test_the_copies_need_not_be_right(self):
        silent = OwnRule({("enters",): "put", ("leaves",): "take"}, lambda moves, whole: None)
        puts = OwnRule({("enters",): "put", ("stays",): "put", ("leaves",): "take"}, lambda moves, whole: None)
        one, other = single(rule=silent), single(rule=puts, present="keep")
        self.assertIs(bool(self.check_parting(one, other, ("x", "x"))), True)
        self.assertEqual(len(self.check_parting(one, other.turned("x", present="merge"), ("x", "x"))), 2)

    def test_equality_with_an_old_cell(self):
        # Both keep the row of a key; when it is inserted again, one makes it anew.
        rule = OwnRule({("enters",): "put"}, lambda moves, whole: None)
        for where, many in ((None, 3), (compare("a", "=", 3), 0)):
            one, other = single(where, rule=rule, present="keep"), single(where, rule=rule, present="replace")
            parting = self.check_parting(one, other, ("x", "x"))
            self.assertEqual(len(parting), many)

    def test_other_copies_do_not_matter_but_for_what_they_refuse(self):
        one = single()
        for rule, many in ((lambda moves, whole: None, 0), (lambda moves, whole: "put", 2)):
            other = Network.of(
                A, Target("x", ["a"]), Target("y", ["a"]), Feed("table", "x"), Feed("table", "y", rule=rule),
            )
            parting = self.check_parting(one, other, ("x", "x"))
            self.assertEqual((len(parting), parting.stopped), (many, (False, many == 2)))
            turned = self.check_parting(other, one, ("x", "x"))
            self.assertEqual((len(turned), turned.stopped), (many, (many == 2, False)))

    def test_a_step_that_both_refuse_is_undone_in_both(self):
        # All puts are refused where a row is: the row stays as it was first.
        rule = OwnRule({("enters",): "put", ("stays",): "put", ("leaves",): "take"}, lambda moves, whole: None)
        stop = single(rule=rule)
        other = Network.of(
            A, Target("y", ["a"], present="keep"), Target("x", ["a"]),
            Feed("table", "y", rule=rule, elder=["a"]), Feed("table", "x", rule=rule, elder=["a"]),
        )
        self.assertIs(bool(self.check_parting(stop, other, ("x", "x"))), True)
        self.assertIs(bool(self.check_parting(stop, other, ("x", "y"))), True)
        runs = [Run(stop), Run(other)]
        for run in runs:
            self.assertEqual([self.stops(run, 1, {"a": cell}) for cell in (1, 2)], [False, True])
            self.assertEqual((run.rows(), run.rows("x")), ({1: {"a": 1}}, {1: {"a": 1}}))

    def test_the_order_is_that_of_the_feeds(self):
        # The feeds of one stand the other way round; so in it the row is taken out behind the put.
        feeds = [
            Feed("table", "x", where=compare("a", "<", 5), elder=["a"]),
            Feed("table", "x", where=compare("a", ">=", 5), elder=["a"]),
        ]
        target = Target("x", ["a"], **MILD)
        one, other = Network(A, [target], feeds), Network(A, [target], feeds[::-1])
        self.assertEqual(len(self.check_parting(one, other, ("x", "x"))), 2)
        shared = [network.turned("x", shared="all") for network in (one, other)]
        self.assertTrue(self.check_parting(*shared, ("x", "x")))


class Errors(Checked):
    def test_bad_pair_of_tables(self):
        wide = [Table.of(Column("a"), Column("b"), Column("c")), Table.of(Column("a"), Column("c"), Column("b"))]
        tables = [A, Table.of(Column("a", empty=True)), Table.of(Column("a", fixed=True)), Table.of(Column("b")), *wide]
        networks = [single(table=table, elder=()) for table in tables]
        for one in networks:
            for other in networks:
                if one is not other:
                    check_raises(self, BadPair, {"part": "table"}, compare_copies, one, other, names=("z", "y"))
        again = single(table=Table.of(Column("a")), elder=())
        self.assertTrue(self.check_parting(networks[0], again, ("x", "x")))

    def test_no_target_the_first_name_first(self):
        table = Table.of(Column("a"), Column("b"), Column("c"))
        one, other = single(table=table), single(table=table, columns=["a"], name="y")
        for name in ("table", "y", "key", "X"):
            check_raises(self, NoTarget, {"name": name}, compare_copies, one, other, names=(name, "x"))
            check_raises(self, NoTarget, {"name": name}, compare_copies, one, other, names=(name, "y"))
        for name in ("table", "x", "key", "Y"):
            check_raises(self, NoTarget, {"name": name}, compare_copies, one, other, names=("x", name))

    def test_bad_pair_of_columns_before_too_many(self):
        table = Table.of(Column("a"), Column("b"), Column("c"))
        one = single(table=table, columns=["a", "b"])
        for columns in (["a"], [], ["a", "c"], ["a", "b", "c"]):
            other = single(table=table, columns=columns)
            check_raises(self, BadPair, {"part": "columns"}, compare_copies, one, other, names=("x", "x"))
        other = single(table=table, columns=["b", "a"])
        check_raises(self, TooMany, {"size": 27 ** 4}, compare_copies, one, other, names=("x", "x"))

    def test_the_span_of_both_together(self):
        where = [compare("a", "<", 1) ^ compare("a", "<", 2), compare("a", "<", 2) ^ compare("a", "<", 3)]
        one, other = single(where[0]), single(where[1])
        self.assertFalse(self.check_parting(one, other, ("x", "x")))
        # Equal numbers of both count once: five and four of them are six together, and a seventh one is too many.
        few, more = Filter.every(), Filter.every()
        for number in range(5):
            few = few & compare("a", "!=", number)
            more = more & compare("a", "!=", number + 1)
        self.assertFalse(self.check_parting(single(few), single(more), ("x", "x")))
        above = single(more & compare("a", "!=", 6))
        check_raises(self, TooMany, {"size": 17 ** 4}, compare_copies, single(few), above, names=("x", "x"))
        keyed = single(few & compare("key", "<", 1))
        check_raises(self, TooMany, {"size": 3 * 15 ** 4}, compare_copies, keyed, single(more), names=("x", "x"))
        # Copies, feeds and arrangements of both.
        pair = Network(A, [Target("x", ["a"], **MILD)], [Feed("table", "x")] * 2)
        check_raises(self, TooMany, {"size": 2 * 2 * 15 ** 4}, compare_copies, pair, single(few & more), names=("x", "x"))
        self.assertTrue(self.check_parting(pair, pair, ("x", "x")))
        trio = Network(A, [Target(name, ["a"]) for name in "xyz"], [Feed("table", name) for name in "xyz"])
        self.assertTrue(self.check_parting(trio, trio, ("x", "z")))
        three = trio.with_filter(0, compare("a", "<", 1))
        check_raises(self, TooMany, {"size": 5 ** 8}, compare_copies, trio, three, names=("x", "z"))

    def test_a_span_that_is_just_not_above_the_bound(self):
        where = compare("a", "<", 1)
        two, three = [
            Network(A, [Target("x", ["a"], **MILD, shared="all")], [Feed("table", "x", where=where, elder=["a"])] * many)
            for many in (2, 3)
        ]
        # 2! * 3! arrangements, 2 ** (5 - 2), and 5 ** 4 cells.
        self.assertEqual(12 * 8 * 5 ** 4, 60000)
        self.assertTrue(self.check_parting(two, three, ("x", "x")))
        keyed = three.with_filter(0, where & compare("key", "<", 1))
        check_raises(self, TooMany, {"size": 180000}, compare_copies, two, keyed, names=("x", "x"))

    def test_names_are_passed_by_name_only(self):
        with self.assertRaises(TypeError):
            compare_copies(single(), single(), ("x", "x"))


class Read(Checked):
    def test_what_is_read_is_new(self):
        self.assertIsInstance(inspect.getattr_static(Parting, "history"), property)
        parting = compare_copies(one=single(), other=single(compare("a", "<", 5)), names=("x", "x"))
        before = repr(parting.history)
        parting.history[0][1].clear()
        self.assertEqual(repr(parting.history), before)
        self.assertEqual(parting.stopped.__class__, tuple)

    def test_the_same_call_has_the_same_answer(self):
        one, other = (compare_copies(single(), single(elder=(), where=is_empty("a")), names=("x", "x")) for _ in range(2))
        self.assertEqual(one.history, other.history)


class SecondReading(Checked):
    def test_all_states_over_enough_integers(self):
        lengths = []
        for seed in range(100):
            rnd = random.Random(seed)
            mild = rnd.choice([0.3, 0.6, 0.9])
            if seed % 4:
                one = run_model.random_run(rnd, 1, 2, 2, 2, seed % 2, mild=mild, wild=0.4)
            else:
                one = run_model.random_run(rnd, 1, 2, 3, 2, 0, mild=mild, wild=0.4, key=0)
            other = self.changed(rnd, one)
            name = one.targets[-1][0]
            networks = one.network(), other.network()
            try:
                parting = self.check_parting(*networks, (name, name), seed)
            except TooMany:
                continue
            many, ways = search_model.compared(one, other, (name, name))
            self.assertEqual(len(parting), many, seed)
            if many:
                self.assertIn(parting.stopped, ways, seed)
            lengths.append(many)
        self.assertTrue({0, 1, 2} <= set(lengths))

    def changed(self, rnd, run):
        """The network with some other habits, filters, elder columns and rules."""
        targets = [
            (name, names[::rnd.choice([1, -1])], rnd.choice([habits, run_model.random_habits(rnd, 0.8)]))
            for name, names, habits in run.targets
        ]
        feeds = []
        for source, target, formula, elder, rule in run.feeds:
            names = run.names_of(source)
            if rnd.random() < 0.2:
                formula = model.random_formula(rnd, names or ["key"], 1, 1)
            if rnd.random() < 0.5:
                elder = sorted(rnd.sample(names, rnd.randint(0, len(names))))
            if rnd.random() < 0.3:
                rule = run_model.random_rule(rnd, 0.5)
            feeds.append((source, target, formula, elder, rule))
        return ModelRun(run.columns, targets, feeds)

    def test_at_the_bounds_it_comes_to_its_end(self):
        table = Table.of(Column("a", empty=True, large=True))
        where = Filter.every()
        for number in range(6):
            where = where ^ compare("a", "<", 2 * number)
        for rule in (None, doubting, lazy):
            one = single(where, (), table, rule=rule, **MILD)
            chain = Network.of(
                table, Target("x", ["a"], **MILD), Target("y", ["a"], **MILD),
                Feed("table", "x", where=where, rule=rule), Feed("x", "y", elder=["a"]),
            )
            few = chain.with_filter(0, compare("a", "<", 1) ^ compare("a", ">", 3) ^ compare("a", "=", 5))
            shorter = one.with_filter(0, few.feeds[0].where)
            trio = Network(
                table, [Target(name, ["a"], **{**MILD, "present": how}) for name, how in zip("xyz", ("keep", "merge", "replace"))],
                [Feed("table", "x", where=is_empty("a"), rule=rule), Feed("x", "y", rule=rule), Feed("table", "z")],
            )
            for networks, names in (
                ((one, one), ("x", "x")), ((few, shorter), ("y", "x")), ((few, shorter), ("x", "x")),
                ((trio, trio.turned("x", shared="all")), ("z", "z")), ((trio, trio.turned("y", present="keep")), ("y", "y")),
            ):
                with check_time(self, 20):
                    self.check_parting(*networks, names)


def lazy(moves, whole):
    """Leaves the copy as it is when the sender doubts."""
    return {("enters",): "put", ("leaves",): "take"}.get(moves)


if __name__ == "__main__":
    unittest.main()
