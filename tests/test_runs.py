"""Runs: steps and what they are refused for, orders, what goes on to later copies, faults and renewed filters."""

import inspect
import itertools
import random
import unittest

import model
import run_model
from filteredcopies.errors import (
    BadNetwork, BadOrder, BadRow, Broken, Fixed, NoFeed, NoRow, NoTarget, NotPlain, Stopped,
)
from filteredcopies.filters import Filter, compare
from filteredcopies.messages import Change, Put, Take
from filteredcopies.networks import Feed, Network, Target
from filteredcopies.rules import Rule
from filteredcopies.runs import Run
from filteredcopies.tables import Column, Table
from helpers import ANY_VALUES, check_raises, the_example

A = Table.of(Column("a"))
MILD = {"present": "replace", "lacking": "make", "gone": "skip"}


def short(sent):
    """Messages as tuples (feed, deed, key, cells)."""
    return [(at, message.deed, message.key, message.cells) for at, message in sent]


def shown(run):
    """All that a run shows."""
    names = [target.name for target in run.network.targets]
    rows = {name: run.rows(name) for name in ["table", *names]}
    keys = sorted({key for told in rows.values() for key in told})
    holders = [(name, key, run.holders(name, key)) for name in names for key in keys]
    return rows, holders, short(run.messages()), run.faults(), run.is_even


def two_feeds(**habits):
    """Two feeds that meet in one copy: of the rows with small cells, and of those with large ones."""
    return Network.of(
        A, Target("x", ["a"], **{**MILD, **habits}),
        Feed("table", "x", where=compare("a", "<", 5), elder=["a"]),
        Feed("table", "x", where=compare("a", ">", 2), elder=["a"]),
    )


def chain(*habits, columns=A):
    """A chain of copies with these habits, in which each sender is told all."""
    names = ["x", "y", "z"][:len(habits)]
    targets = [Target(name, columns.names, **told) for name, told in zip(names, habits)]
    feeds = [Feed(source, name, elder=columns.names) for source, name in zip(["table", *names], names)]
    return Network(columns, targets, feeds)


class Steps(unittest.TestCase):
    def test_example_of_the_document(self):
        table = Table.of(Column("a"), Column("b", large=True))
        chosen = compare("a", ">=", 5)
        target = Target("x", ["a", "b"], lacking="make", gone="skip")
        run = Run(Network.of(table, target, Feed("table", "x", where=chosen)))
        self.assertEqual(run.step(1, {"a": 3, "b": 8}), [])
        self.assertEqual(short(run.step(1, {"a": 6, "b": 8})), [(0, "change", 1, {"a": 6})])
        self.assertEqual(run.rows("x"), {1: {"a": 6, "b": None}})
        self.assertEqual(run.faults(), [("x", 1, "unlike")])
        self.assertIs(run.is_even, False)

    def test_a_run_begins_empty(self):
        network = two_feeds()
        run = Run(network)
        self.assertIs(run.network, network)
        self.assertEqual(shown(run), ({"table": {}, "x": {}}, [], [], [], True))
        self.assertEqual(run.holders("x", 3), ())

    def test_insertions_updates_and_removals(self):
        run = Run(chain({}))
        self.assertEqual(short(run.step(3, {"a": 1})), [(0, "put", 3, {"a": 1})])
        self.assertEqual(short(run.step(-3, {"a": 1})), [(0, "put", -3, {"a": 1})])
        self.assertEqual(short(run.step(3, {"a": 1})), [(0, "change", 3, {"a": 1})])
        self.assertEqual(short(run.step(key=3, cells={"a": 2}, order=(0,))), [(0, "change", 3, {"a": 2})])
        self.assertEqual(list(run.rows().items()), [(-3, {"a": 1}), (3, {"a": 2})])
        self.assertEqual(list(run.rows("x").items()), [(-3, {"a": 1}), (3, {"a": 2})])
        self.assertEqual(short(run.step(-3, None)), [(0, "take", -3, {})])
        self.assertEqual(run.rows(name="x"), {3: {"a": 2}})
        self.assertEqual(run.rows("table"), {3: {"a": 2}})
        self.assertIs(run.is_even, True)

    def test_the_table_changes_by_each_step(self):
        # The cells stay as they are, and the feed sends nevertheless.
        run = Run(chain({}, {}))
        run.step(1, {"a": 1})
        self.assertEqual(short(run.step(1, {"a": 1})), [(0, "change", 1, {"a": 1})])

    def test_a_copy_changes_if_its_row_does(self):
        # The first copy keeps what it has, so the second one hears nothing.
        always = Rule({(("stays",), True): "put"})
        run = Run(chain({"present": "keep"}, {}).with_rule(0, always))
        self.assertEqual(short(run.step(1, {"a": 1})), [(0, "put", 1, {"a": 1}), (1, "put", 1, {"a": 1})])
        self.assertEqual(short(run.step(1, {"a": 2})), [(0, "put", 1, {"a": 2})])
        self.assertEqual(run.rows("y"), {1: {"a": 1}})
        self.assertEqual(run.faults(), [("x", 1, "unlike"), ("y", 1, "unlike")])
        self.assertEqual(short(run.step(1, None)), [(0, "take", 1, {}), (1, "take", 1, {})])
        self.assertEqual(short(run.step(1, {"a": 3}))[1], (1, "put", 1, {"a": 3}))

    def test_other_holders_alone_are_no_change(self):
        network = Network.of(
            A, Target("x", ["a"], present="replace", shared="all"), Target("y", ["a"]),
            Feed("table", "x", elder=["a"]), Feed("table", "x", where=compare("a", ">", 5)), Feed("x", "y"),
        )
        # The second feed becomes a holder by an update that leaves the cells as they are.
        later = Rule({(("enters",), True): None, (("stays", "enters"), True): "put"})
        run = Run(network.with_rule(1, later))
        self.assertEqual(short(run.step(1, {"a": 7})), [(0, "put", 1, {"a": 7}), (2, "put", 1, {"a": 7})])
        self.assertEqual(run.holders("x", 1), (0,))
        self.assertEqual(short(run.step(1, {"a": 7})), [(0, "change", 1, {"a": 7}), (1, "put", 1, {"a": 7})])
        self.assertEqual(run.holders("x", 1), (0, 1))
        self.assertEqual(run.holders("y", 1), (2,))

    def test_the_change_of_a_copy_is_that_behind_all_messages(self):
        # One feed takes the row out and the other one puts it in again: for the later copy this is one update.
        network = Network.of(
            A, Target("x", ["a"], **MILD), Target("y", ["a"]),
            Feed("table", "x", where=compare("a", "<", 5), elder=["a"]),
            Feed("table", "x", where=compare("a", ">=", 5), elder=["a"]),
            Feed("x", "y", elder=["a"]),
        )
        run = Run(network)
        run.step(1, {"a": 1})
        expected = [(0, "take", 1, {}), (1, "put", 1, {"a": 7}), (2, "change", 1, {"a": 7})]
        self.assertEqual(short(run.step(1, {"a": 7})), expected)

    def test_messages_come_in_the_order_of_the_targets(self):
        # The feeds stand in another order than their targets.
        network = Network.of(
            A, Target("x", ["a"]), Target("y", ["a"]),
            Feed("x", "y", elder=["a"]), Feed("table", "y", where=Filter.nothing()), Feed("table", "x", elder=["a"]),
        )
        for order in [(), *itertools.permutations(range(3))]:
            run = Run(network)
            self.assertEqual(short(run.step(1, {"a": 1}, order=order)), [(2, "put", 1, {"a": 1}), (0, "put", 1, {"a": 1})])

    def test_what_is_returned_is_new_and_arguments_are_copied(self):
        run = Run(chain({}))
        cells = {"a": 1}
        sent = run.step(1, cells)
        before = shown(run)
        cells["a"] = 2
        sent[0][1].cells["a"] = 3
        sent.append(None)
        run.rows()[1]["a"] = 4
        run.rows("x")[2] = None
        run.rows("x")[1]["a"] = 5
        run.faults().append(None)
        self.assertEqual(shown(run), before)
        run.step(2, {"a": 2})
        self.assertEqual(short(run.step(2, {"a": 3})), [(0, "change", 2, {"a": 3})])

    def test_two_runs_of_a_network_are_apart(self):
        network = chain({})
        one, other = Run(network), Run(network)
        one.step(1, {"a": 1})
        self.assertEqual((other.rows(), other.rows("x")), ({}, {}))
        other.step(1, {"a": 2})
        self.assertEqual(one.rows(), {1: {"a": 1}})

    def test_options_are_passed_by_name_only(self):
        with self.assertRaises(TypeError):
            Run(chain({})).step(1, {"a": 1}, ())


class StepErrors(unittest.TestCase):
    table = Table.of(Column("a"), Column("b", fixed=True, empty=True), Column("c", fixed=True))

    def setUp(self):
        target = Target("x", ["a", "b", "c"], present="stop")
        put = {(("stays",), True): "put"}
        feeds = [Feed("table", "x", elder=["a"]), Feed("table", "x", where=Filter.nothing())]
        self.run_of = Run(Network(self.table, [target], feeds).with_rule(0, Rule(put)))
        self.run_of.step(1, {"a": 1, "b": None, "c": 3})
        self.before = shown(self.run_of)

    def tearDown(self):
        self.assertEqual(shown(self.run_of), self.before)

    def check(self, error, fields, *args, **named):
        check_raises(self, error, fields, self.run_of.step, *args, **named)

    def test_any_key(self):
        for key in ANY_VALUES:
            if not isinstance(key, int) or isinstance(key, bool):
                self.check(BadRow, {"part": "key"}, key, {"a": 1, "b": 2, "c": 3}, order=0)
                self.check(BadRow, {"part": "key"}, key, None, order=0)
                self.check(BadRow, {"part": "key"}, key, 5)

    def test_any_cells(self):
        for cells in ANY_VALUES:
            if cells is not None:
                self.check(BadRow, {"part": None}, 1, cells, order=0)
                self.check(BadRow, {"part": "a"}, 1, {"a": {}, "b": cells, "c": cells}, order=0)
            if not isinstance(cells, int) or isinstance(cells, bool):
                self.check(BadRow, {"part": "c"}, 1, {"c": cells, "a": 1, "b": 7})

    def test_no_row(self):
        for key in (2, -1, 10 ** 40):
            self.check(NoRow, {"key": key}, key, None, order=7)

    def test_fixed(self):
        self.check(Fixed, {"name": "b"}, 1, {"c": 4, "b": 4, "a": 1}, order=7)
        self.check(Fixed, {"name": "c"}, 1, {"a": 2, "b": None, "c": 4}, order=7)
        self.check(Fixed, {"name": "b"}, 1, {"a": 2, "b": 0, "c": 3})

    def test_a_fixed_cell_may_differ_in_a_row_that_is_inserted_later(self):
        self.run_of.step(1, None)
        self.run_of.step(1, {"a": 1, "b": 4, "c": 4})
        self.assertEqual(self.run_of.rows("x"), {1: {"a": 1, "b": 4, "c": 4}})
        self.run_of.step(1, None)
        self.run_of.step(1, {"a": 1, "b": None, "c": 3})
        self.before = shown(self.run_of)

    def test_any_order(self):
        near = [(0,), (1,), (0, 0), (1, 1), (0, 1, 1), (0, 1, 2), (1, 2), (-1, 0), (0, True), (False, 1), ((0, 1),),
                [0, 1], [1, 0], ("0", "1"), (0, None), ([0], [1])]
        for order in ANY_VALUES + near:
            if order != () or order.__class__ is not tuple:
                self.check(BadOrder, {"order": order}, 2, {"a": 1, "b": 2, "c": 3}, order=order)
                self.check(BadOrder, {"order": order}, 1, None, order=order)
                self.check(BadOrder, {"order": order}, 1, {"a": 1, "b": None, "c": 3}, order=order)

    def test_stopped(self):
        with self.assertRaises(Stopped) as caught:
            self.run_of.step(1, {"a": 5, "b": None, "c": 3})
        error = caught.exception
        self.assertEqual((error.at, error.row), (0, {"a": 1, "b": None, "c": 3}))
        self.assertTrue(error.message == Put(1, {"a": 5, "b": None, "c": 3}))


class Undone(unittest.TestCase):
    def test_all_copies_and_holders_are_as_before(self):
        # The third copy refuses, when the first two have applied their messages.
        network = chain({"shared": "all"}, {}, {"present": "stop"}).with_rule(2, Rule({(("stays",), True): "put"}))
        run = Run(network)
        run.step(1, {"a": 1})
        run.step(2, {"a": 2})
        before = shown(run)
        with self.assertRaises(Stopped) as caught:
            run.step(1, {"a": 5})
        self.assertEqual((caught.exception.at, caught.exception.row), (2, {"a": 1}))
        self.assertTrue(caught.exception.message == Put(1, {"a": 5}))
        self.assertEqual(shown(run), before)
        run.step(2, None)
        self.assertEqual(run.rows("z"), {1: {"a": 1}})

    def test_the_row_is_that_which_the_copy_had_then(self):
        # The first feed has taken the row out before the second one sends a change, which is refused.
        network = two_feeds(lacking="stop")
        run = Run(network)
        run.step(1, {"a": 3})
        self.assertEqual(run.holders("x", 1), (0, 1))
        with self.assertRaises(Stopped) as caught:
            run.step(1, {"a": 7}, order=(0, 1))
        self.assertEqual((caught.exception.at, caught.exception.row), (1, None))
        self.assertTrue(caught.exception.message == Change(1, {"a": 7}))
        self.assertEqual(run.holders("x", 1), (0, 1))
        self.assertEqual(short(run.step(1, {"a": 7}, order=(1, 0))), [(1, "change", 1, {"a": 7}), (0, "take", 1, {})])
        self.assertEqual(run.faults(), [("x", 1, "lacks")])
        with self.assertRaises(Stopped) as caught:
            Run(two_feeds(present="stop")).step(1, {"a": 3}, order=(1, 0))
        self.assertEqual((caught.exception.at, caught.exception.row), (0, {"a": 3}))

    def test_the_row_of_the_error_is_a_copy(self):
        run = Run(chain({"present": "stop"}).with_rule(0, Rule({(("stays",), True): "put"})))
        run.step(1, {"a": 1})
        with self.assertRaises(Stopped) as caught:
            run.step(1, {"a": 2})
        caught.exception.row["a"] = 3
        self.assertEqual(run.rows("x"), {1: {"a": 1}})


class Orders(unittest.TestCase):
    def test_the_order_decides_what_the_copy_has(self):
        # For an update the first feed sends a take and the second one a change.
        network = Network.of(
            A, Target("x", ["a"], present="keep", lacking="make"),
            Feed("table", "x", rule=Rule({(("stays",), True): "take"})), Feed("table", "x"),
        )
        for order, rows in (((0, 1), {1: {"a": 2}}), ((1, 0), {}), ((), {1: {"a": 2}})):
            run = Run(network)
            run.step(1, {"a": 1}, order=(1, 0))
            run.step(1, {"a": 2}, order=order)
            self.assertEqual(run.rows("x"), rows)

    def test_without_an_order_it_is_that_of_the_feeds(self):
        network = two_feeds()
        for order, feeds in (((), [0, 1]), ((0, 1), [0, 1]), ((1, 0), [1, 0])):
            self.assertEqual([at for at, _ in Run(network).step(1, {"a": 3}, order=order)], feeds)

    def test_feeds_of_other_targets_may_stand_between(self):
        network = Network.of(
            A, Target("x", ["a"], **MILD), Target("y", ["a"], **MILD),
            Feed("table", "x"), Feed("table", "y"), Feed("table", "x"), Feed("table", "y"),
        )
        for order in itertools.permutations(range(4)):
            expected = [at for at in order if at in (0, 2)] + [at for at in order if at in (1, 3)]
            self.assertEqual([at for at, _ in Run(network).step(1, {"a": 3}, order=order)], expected)


class Histories(unittest.TestCase):
    def test_play(self):
        history = ((1, {"a": 3}, ()), (2, {"a": 7}, (1, 0)), (1, {"a": 7}, (1, 0)), (2, None, ()))
        for told in (history, list(history)):
            run, other = Run(two_feeds()), Run(two_feeds())
            self.assertIsNone(run.play(told))
            for key, cells, order in history:
                other.step(key, cells, order=order)
            self.assertEqual(shown(run), shown(other))
        self.assertIsNone(Run(two_feeds()).play(()))
        self.assertEqual(history[0], (1, {"a": 3}, ()))

    def test_all_steps_or_none(self):
        table = Table.of(Column("a", fixed=True))
        network = Network.of(table, Target("x", ["a"], gone="stop"), Feed("table", "x", where=compare("a", ">", 2)))
        run = Run(network)
        run.step(1, {"a": 3})
        before = shown(run)
        good = [(2, {"a": 4}, ()), (1, None, (0,)), (1, {"a": 5}, ()), (7, {"a": 0}, ())]
        bad = [("key", {"a": 1}, ()), (1, {"b": 1}, ()), (3, None, ()), (2, {"a": 5}, ()), (2, {"a": 4}, (1,)), (7, None, ())]
        for step in bad:
            for at in range(4, -1, -1):
                history = [*good[:at], step, *good[at:]] if at == 4 else [*good[:at], (9, 9, 9), step]
                check_raises(self, Broken, {"at": at}, run.play, history)
                check_raises(self, Broken, {"at": at}, run.play, tuple(history))
                self.assertEqual(shown(run), before)
        run.play(good)
        self.assertEqual(run.rows(), {1: {"a": 5}, 2: {"a": 4}, 7: {"a": 0}})

    def test_any_values_in_a_step(self):
        run = Run(two_feeds())
        for value in ANY_VALUES:
            check_raises(self, Broken, {"at": 1}, run.play, [(1, {"a": 1}, ()), (value, value, value)])
        self.assertEqual(run.rows(), {})


class Reading(unittest.TestCase):
    def test_no_target(self):
        run = Run(chain({}))
        run.step(1, {"a": 1})
        for name in ("y", "key", "", "X", "tables"):
            check_raises(self, NoTarget, {"name": name}, run.rows, name)
            check_raises(self, NoTarget, {"name": name}, run.holders, name, 1)
        check_raises(self, NoTarget, {"name": "table"}, run.holders, "table", 1)
        check_raises(self, NoTarget, {"name": "table"}, run.holders, key=1, name="table")

    def test_keys_ascend(self):
        run = Run(chain({}))
        keys = [5, -3, 10 ** 39, 0, -(10 ** 39), 4]
        for key in keys:
            run.step(key, {"a": key})
        run.step(0, {"a": 1})
        self.assertEqual(list(run.rows()), sorted(keys))
        self.assertEqual(list(run.rows("x")), sorted(keys))

    def test_faults_by_targets_and_keys(self):
        late = Rule({(("stays",), True): None, (("enters",), True): None, (("leaves",), False): None})
        network = chain({}, {}).with_rule(1, late)
        run = Run(network)
        self.assertEqual(run.faults(), [])
        for key in (3, -1, 2):
            run.step(key, {"a": 1})
        self.assertEqual(run.faults(), [("y", -1, "lacks"), ("y", 2, "lacks"), ("y", 3, "lacks")])
        run = Run(network.with_rule(0, late).with_rule(1, late).turned("x", lacking="make"))
        run.step(3, {"a": 1})
        run.step(1, {"a": 1})
        self.assertEqual(run.faults(), [("x", 1, "lacks"), ("x", 3, "lacks"), ("y", 1, "lacks"), ("y", 3, "lacks")])

    def test_left_over_and_unlike(self):
        keep = Rule({(("stays",), True): None, (("leaves",), False): None})
        run = Run(chain({}, {}).with_rule(0, keep))
        for key in (2, 1):
            run.step(key, {"a": 1})
        run.step(2, None)
        run.step(1, {"a": 4})
        unlike, left = ("x", 1, "unlike"), ("x", 2, "left over")
        self.assertEqual(run.faults(), [unlike, left, ("y", *unlike[1:]), ("y", *left[1:])])
        self.assertIs(run.is_even, False)

    def test_a_row_that_is_not_let_through_to_the_source_is_not_to_the_copy(self):
        network = Network.of(
            A, Target("x", ["a"], lacking="make", gone="skip"), Target("y", ["a"], gone="skip"),
            Feed("table", "x", where=compare("a", ">", 5), rule=Rule({(("away",), True): "put"})), Feed("x", "y"),
        )
        run = Run(network)
        run.step(1, {"a": 1})
        self.assertEqual(run.faults(), [("x", 1, "left over"), ("y", 1, "left over")])

    def test_is_even_is_a_property(self):
        self.assertIsInstance(inspect.getattr_static(Run, "is_even"), property)
        run = Run(chain({}))
        run.step(1, {"a": 1})
        self.assertIs(run.is_even, True)

    def test_messages(self):
        run = Run(two_feeds(present="keep"))
        self.assertTrue(inspect.isgenerator(run.messages()))
        self.assertEqual(list(run.messages()), [])
        run.step(1, {"a": 3}, order=(1, 0))
        run.step(2, {"a": 7})
        run.step(1, None)
        # Also those that do nothing: the row is gone when the second take comes.
        expected = [
            (1, "put", 1, {"a": 3}), (0, "put", 1, {"a": 3}), (1, "put", 2, {"a": 7}), (0, "take", 1, {}),
            (1, "take", 1, {}),
        ]
        self.assertEqual(short(run.messages()), expected)
        self.assertEqual(short(run.messages()), expected)
        for sent in run.messages():
            self.assertIs(sent.__class__, tuple)


class Renewing(unittest.TestCase):
    def renewed(self, run, at, where):
        sent = run.renew(at, where)
        self.assertIs(sent.__class__, list)
        return short(sent)

    def test_a_put_or_a_take_for_each_row_that_enters_or_leaves(self):
        table = Table.of(Column("a"), Column("b", large=True, empty=True), Column("c"))
        target = Target("x", ["b", "a"])
        network = Network.of(table, target, Feed("table", "x", where=compare("a", "<", 5), elder=["a"]))
        run = Run(network)
        for key, cell in ((4, 7), (-4, 3), (1, 3), (2, 9)):
            run.step(key, {"a": cell, "b": None, "c": 0})
        before = short(run.messages())
        sent = self.renewed(run, 0, compare("a", ">=", 5) | compare("key", "=", 1))
        self.assertEqual(sent, [
            (0, "take", -4, {}), (0, "put", 2, {"b": None, "a": 9}), (0, "put", 4, {"b": None, "a": 7}),
        ])
        self.assertEqual(short(run.messages()), before + sent)
        self.assertEqual(sorted(run.rows("x")), [1, 2, 4])
        self.assertIs(run.is_even, True)

    def test_from_then_on_the_network_has_the_new_filter(self):
        network = chain({}).with_filter(0, compare("a", "<", 5))
        run = Run(network)
        run.step(1, {"a": 7})
        self.renewed(run, 0, None)
        self.assertIsNot(run.network, network)
        self.assertTrue(run.network.feeds[0].where == Filter.every())
        self.assertTrue(network.feeds[0].where == compare("a", "<", 5))
        self.assertEqual(run.network.feeds[0].elder, ("a",))
        self.assertEqual(short(run.step(1, {"a": 8})), [(0, "change", 1, {"a": 8})])
        self.assertEqual(self.renewed(run, at=0, where=Filter.nothing()), [(0, "take", 1, {})])
        self.assertEqual(run.step(1, {"a": 3}), [])
        self.assertIs(run.is_even, True)

    def test_what_changes_goes_on_before_the_next_row(self):
        network = chain({}, {}, {}).with_filter(0, compare("a", "<", 5)).with_filter(2, compare("a", "!=", 8))
        run = Run(network)
        for key, cell in ((3, 8), (1, 7), (2, 1)):
            run.step(key, {"a": cell})
        self.assertEqual(self.renewed(run, 0, compare("a", ">", 5)), [
            (0, "put", 1, {"a": 7}), (1, "put", 1, {"a": 7}), (2, "put", 1, {"a": 7}),
            (0, "take", 2, {}), (1, "take", 2, {}), (2, "take", 2, {}),
            (0, "put", 3, {"a": 8}), (1, "put", 3, {"a": 8}),
        ])
        self.assertIs(run.is_even, True)

    def test_a_feed_of_a_copy(self):
        # The later feed has another source too, which has not changed; nothing comes from there.
        network = Network.of(
            A, Target("x", ["a"]), Target("y", ["a"]), Target("z", ["a"]),
            Feed("table", "x", elder=["a"]), Feed("x", "y", where=compare("a", "<", 5)), Feed("x", "z", elder=["a"]),
        )
        run = Run(network)
        run.step(1, {"a": 7})
        self.assertEqual(self.renewed(run, 1, None), [(1, "put", 1, {"a": 7})])
        self.assertEqual(run.rows("y"), {1: {"a": 7}})
        self.assertEqual(run.holders("y", 1), (1,))

    def test_a_feed_of_a_copy_with_a_later_one(self):
        network = chain({}, {}, {}).with_filter(1, compare("a", "<", 5))
        run = Run(network)
        run.step(1, {"a": 7})
        run.step(2, {"a": 1})
        self.assertEqual(self.renewed(run, 1, compare("a", ">", 5)), [
            (1, "put", 1, {"a": 7}), (2, "put", 1, {"a": 7}), (1, "take", 2, {}), (2, "take", 2, {}),
        ])
        self.assertEqual([run.rows("x"), run.rows("z")], [{1: {"a": 7}, 2: {"a": 1}}, {1: {"a": 7}}])
        self.assertIs(run.is_even, True)

    def test_the_rows_are_those_of_the_source_as_they_are(self):
        # The copy lacks a row that it should have, and has another one with an empty cell.
        half = Rule({(("enters",), True): None})
        table = Table.of(Column("a"), Column("b", large=True))
        network = Network.of(
            table, Target("x", ["a", "b"], lacking="make"), Target("y", ["b"]),
            Feed("table", "x", rule=half), Feed("x", "y", where=Filter.nothing()),
        )
        run = Run(network)
        run.step(1, {"a": 1, "b": 2})
        run.step(2, {"a": 1, "b": 2})
        run.step(2, {"a": 3, "b": 2})
        self.assertEqual(run.rows("x"), {2: {"a": 3, "b": None}})
        self.assertEqual(self.renewed(run, 1, None), [(1, "put", 2, {"b": None})])

    def test_it_stops_and_all_is_undone(self):
        # The copy has a row that it should not have; the put for the later one of two rows is refused.
        network = chain({}, {"present": "stop"})
        network = network.with_filter(0, compare("a", "<", 5)).with_rule(0, Rule({(("leaves",), True): None}))
        run = Run(network)
        for key, cell in ((2, 1), (2, 8), (1, 7)):
            run.step(key, {"a": cell})
        before = shown(run)
        with self.assertRaises(Stopped) as caught:
            run.renew(0, None)
        self.assertEqual((caught.exception.at, caught.exception.row), (0, {"a": 1}))
        self.assertTrue(caught.exception.message == Put(2, {"a": 8}))
        self.assertEqual(shown(run), before)
        self.assertIs(run.network, network)
        self.assertEqual(run.step(3, {"a": 7}), [])

    def test_a_later_copy_refuses(self):
        network = chain({}, {"gone": "stop"}).with_filter(1, compare("a", "<", 5))
        network = network.with_rule(1, Rule({(("away",), True): "take"}))
        network = network.with_filter(0, Filter.nothing())
        run = Run(network)
        run.step(1, {"a": 7})
        with self.assertRaises(Stopped) as caught:
            run.renew(0, None)
        self.assertEqual((caught.exception.at, caught.exception.row), (1, None))
        self.assertTrue(caught.exception.message == Take(1))
        self.assertEqual((run.rows("x"), list(run.messages())), ({}, []))

    def test_errors_in_their_order(self):
        wrong = compare("b", "=", 1)
        both = Network.of(
            A, Target("x", ["a"], **MILD), Target("y", ["a"], **MILD),
            Feed("table", "y"), Feed("x", "y"), Feed("table", "x"), Feed("table", "y"),
        )
        run = Run(both)
        for at in (-1, 4, 10 ** 39):
            check_raises(self, NoFeed, {"at": at}, run.renew, at, wrong)
        for at in range(4):
            check_raises(self, NotPlain, {"many": 3}, run.renew, at, wrong)
            check_raises(self, NotPlain, {"many": 3}, run.renew, at, None)
        first = Network.of(
            A, Target("x", ["a"], **MILD), Target("y", ["a"], **MILD),
            Feed("table", "y"), Feed("x", "y"), Feed("table", "x"), Feed("table", "x"),
        )
        check_raises(self, NotPlain, {"many": 2}, Run(first).renew, 0, None)
        run = Run(chain({}, {}))
        run.step(1, {"a": 1})
        before = shown(run)
        for at in range(2):
            check_raises(self, BadNetwork, {"part": "feeds", "at": at}, run.renew, at, wrong)
        self.assertEqual(shown(run), before)
        check_raises(self, NoFeed, {"at": 1}, Run(the_example()).renew, 1, None)


class SecondReading(unittest.TestCase):
    def test_random_runs(self):
        for seed in range(200):
            rnd = random.Random(seed)
            told = run_model.random_run(rnd, most_columns=3, most_targets=3, most_feeds=4, parts=3)
            run = Run(told.network())
            for _ in range(20):
                if rnd.random() < 0.07 and run_model.is_plain(told):
                    self.check_renewal(rnd, told, run, seed)
                else:
                    self.check_step(rnd, told, run, seed)
                self.check_all(told, run, seed)

    def check_step(self, rnd, told, run, seed):
        key = rnd.choice([0, 0, 1, 2])
        cells = run_model.random_cells(rnd, told, key)
        order = rnd.choice([(), tuple(rnd.sample(range(len(told.feeds)), len(told.feeds)))])
        self.check_call(lambda: told.step(key, cells, order), lambda: run.step(key, cells, order=order), seed)

    def check_renewal(self, rnd, told, run, seed):
        at = rnd.randrange(len(told.feeds))
        formula = model.random_formula(rnd, [*told.names_of(told.feeds[at][0]), "key"], 2, 2)
        self.check_call(lambda: told.renew(at, formula), lambda: run.renew(at, model.built(formula)), seed)

    def check_call(self, expected, found, seed):
        try:
            sent = [(at, *message) for at, message in expected()]
        except run_model.Stop as stop:
            at, message, row = stop.args
            with self.assertRaises(Stopped) as caught:
                found()
            error = caught.exception
            self.assertEqual([(error.at, *message)], short([(at, error.message)]), seed)
            self.assertEqual(error.row, row, seed)
            return
        self.assertEqual(short(found()), sent, seed)

    def check_all(self, told, run, seed):
        self.assertEqual(run.rows(), told.table, seed)
        for name, _, _ in told.targets:
            held = told.copies[name].held
            self.assertEqual(run.rows(name), {key: held[key][0] for key in held}, seed)
            for key in range(3):
                holders = tuple(sorted(held[key][1])) if key in held else ()
                self.assertEqual(run.holders(name, key), holders, seed)
        self.assertEqual(run.faults(), told.faults(), seed)
        self.assertIs(run.is_even, not told.faults(), seed)
        self.assertEqual(short(run.messages()), [(at, *message) for at, message in told.log], seed)


if __name__ == "__main__":
    unittest.main()
