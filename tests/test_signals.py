"""Views, signals and messages: what the sender of a feed is told, reckons with and sends."""

import itertools
import random
import unittest

import model
import run_model
from filteredcopies.errors import NoFeed
from filteredcopies.filters import Filter, compare, is_empty
from filteredcopies.messages import Change, Put, Take
from filteredcopies.networks import Feed, Network, Target
from filteredcopies.rules import Rule, doubting
from filteredcopies.signals import sent, signal, view
from filteredcopies.tables import Column, Table
from helpers import check_raises, the_example

STAYS, LEAVES, ENTERS, AWAY = "stays", "leaves", "enters", "away"
CALLS = (view, signal, sent)


def single(columns, where=None, elder=(), target=None, rule=None):
    """A network with one feed; the target has all columns, or those that are told."""
    table = Table(columns)
    names = table.names if target is None else target
    return Network(table, [Target("x", names)], [Feed("table", "x", where=where, elder=elder, rule=rule)])


def told(message):
    """All of a message."""
    return None if message is None else (message.__class__, message.key, message.cells)


class Views(unittest.TestCase):
    network = single([Column("a"), Column("b", large=True, empty=True), Column("c", large=True)], elder=["a", "c"])

    def test_before_are_told_the_elder_columns(self):
        row = {"a": 1, "b": 2, "c": 3}
        self.assertEqual(view(self.network, 0, 7, row, None), ({"a": 1, "c": 3}, None))
        plain = self.network.with_elder(0, [])
        self.assertEqual(view(plain, 0, 7, row, None), ({}, None))

    def test_an_insertion_tells_all_cells(self):
        row = {"a": 1, "b": None, "c": 3}
        for elder in ([], ["a"], ["b", "c"]):
            self.assertEqual(view(self.network.with_elder(0, elder), 0, 7, None, row), (None, row))

    def test_an_update_leaves_out_large_cells_that_stay_unless_they_are_elder(self):
        row = {"a": 1, "b": 2, "c": 3}
        self.assertEqual(view(self.network, 0, 7, row, row), ({"a": 1, "c": 3}, {"a": 1, "c": 3}))
        plain = self.network.with_elder(0, [])
        self.assertEqual(view(plain, 0, 7, row, row), ({}, {"a": 1}))
        self.assertEqual(view(plain, 0, 7, row, {"a": 4, "b": 5, "c": 3}), ({}, {"a": 4, "b": 5}))

    def test_none_is_the_same_as_none_and_no_integer(self):
        empty = {"a": 1, "b": None, "c": 3}
        full = {"a": 1, "b": 0, "c": 3}
        self.assertEqual(view(self.network, 0, 7, empty, empty)[1], {"a": 1, "c": 3})
        self.assertEqual(view(self.network, 0, 7, empty, full)[1], full)
        self.assertEqual(view(self.network, 0, 7, full, empty)[1], empty)

    def test_none_in_columns_that_may_not_be_empty(self):
        network = self.network.with_elder(0, ["a"])
        row = {"a": None, "b": None, "c": None}
        self.assertEqual(view(network, 0, 7, row, row), ({"a": None}, {"a": None}))
        self.assertEqual(view(network, 0, 7, {**row, "c": 3}, row), ({"a": None}, {"a": None, "c": None}))

    def test_columns_of_a_copy_stay_large(self):
        table = Table.of(Column("a"), Column("b", large=True), Column("c"))
        network = Network.of(
            table, Target("x", ["b", "a"]), Target("y", ["a"]), Feed("table", "x"), Feed("x", "y", elder=["a"]),
        )
        self.assertEqual(view(network, 1, 7, {"a": 1, "b": 2}, {"a": 3, "b": 2}), ({"a": 1}, {"a": 3}))
        self.assertEqual(view(network, 1, 7, {"b": None, "a": 1}, None), ({"a": 1}, None))
        copy = Network.of(table, Target("x", []), Target("y", []), Feed("table", "x"), Feed("x", "y"))
        self.assertEqual(view(copy, 1, 7, {}, {}), ({}, {}))
        self.assertEqual(signal(copy, 1, 7, {}, {}), ((STAYS,), True))
        self.assertEqual(told(sent(copy, 1, 7, None, {})), (Put, 7, {}))

    def test_what_is_returned_is_new_and_arguments_stay(self):
        row, other = {"a": 1, "b": 2, "c": 3}, {"a": 2, "b": 2, "c": 3}
        for before, after in ((row, other), (None, row), (row, None)):
            first = view(self.network, 0, 7, before, after)
            for cells in first:
                if cells is not None:
                    cells["a"] = "changed"
            self.assertNotEqual(view(self.network, 0, 7, before, after), first)
        sent(self.network, 0, 7, row, other).cells["a"] = "changed"
        self.assertEqual(sent(self.network, 0, 7, row, other).cells, {"a": 2, "c": 3})
        self.assertEqual((row, other), ({"a": 1, "b": 2, "c": 3}, {"a": 2, "b": 2, "c": 3}))

    def test_parameters_by_name(self):
        row = {"a": 1, "b": 2, "c": 3}
        for call in CALLS:
            named = call(after=row, before=None, key=7, at=0, network=self.network)
            self.assertTrue(named == call(self.network, 0, 7, None, row))


class Moves(unittest.TestCase):
    def moves(self, network, before, after, key=7, at=0):
        return signal(network, at, key, before, after)[0]

    def test_insertions_and_removals(self):
        where = compare("a", ">=", 5)
        for cell, moves in ((7, (ENTERS,)), (5, (ENTERS,)), (4, (AWAY,))):
            network = single([Column("a")], where)
            self.assertEqual(self.moves(network, None, {"a": cell}), moves)
            self.assertEqual(self.moves(network, {"a": cell}, None), (LEAVES, AWAY))
            leaving = (LEAVES,) if cell >= 5 else (AWAY,)
            self.assertEqual(self.moves(network.with_elder(0, ["a"]), {"a": cell}, None), leaving)
        self.assertEqual(self.moves(single([Column("a")]), {"a": 1}, None), (LEAVES,))
        self.assertEqual(self.moves(single([Column("a")], Filter.nothing()), {"a": 1}, None), (AWAY,))

    def test_updates_without_elder_columns(self):
        network = single([Column("a")], compare("a", ">=", 5))
        for before in (3, 7, 9):
            self.assertEqual(self.moves(network, {"a": before}, {"a": 7}), (STAYS, ENTERS))
            self.assertEqual(self.moves(network, {"a": before}, {"a": 3}), (LEAVES, AWAY))

    def test_updates_with_elder_columns(self):
        network = single([Column("a")], compare("a", ">=", 5), ["a"])
        expected = {(7, 8): STAYS, (7, 3): LEAVES, (3, 7): ENTERS, (3, 4): AWAY}
        for (before, after), move in expected.items():
            self.assertEqual(self.moves(network, {"a": before}, {"a": after}), (move,))

    def test_the_key_is_known(self):
        network = single([Column("a")], compare("key", "<", 5) | compare("a", "=", 1))
        self.assertEqual(self.moves(network, {"a": 3}, {"a": 3}, key=4), (STAYS,))
        self.assertEqual(self.moves(network, {"a": 3}, {"a": 3}, key=5), (LEAVES, AWAY))
        self.assertEqual(self.moves(network, {"a": 3}, None, key=4), (LEAVES,))

    def test_unsent_cells_are_the_same_before_and_after(self):
        network = single([Column("a", large=True)], compare("a", ">=", 5))
        for cell in (3, 7):
            self.assertEqual(self.moves(network, {"a": cell}, {"a": cell}), (STAYS, AWAY))
        # A large cell that is told has changed, but this is not used: the filter has one integer, and it can stay.
        network = single([Column("a", large=True)], compare("a", "=", 5))
        self.assertEqual(self.moves(network, {"a": 4}, {"a": 5}), (STAYS, ENTERS))
        self.assertEqual(self.moves(network, {"a": 5}, {"a": 4}), (LEAVES, AWAY))

    def test_unsent_cells_together_with_others(self):
        where = compare("a", "=", 1) ^ compare("b", "=", 1)
        network = single([Column("a", large=True), Column("b")], where, ["b"])
        same = {"a": 8}
        self.assertEqual(self.moves(network, {**same, "b": 1}, {**same, "b": 1}), (STAYS, AWAY))
        self.assertEqual(self.moves(network, {**same, "b": 1}, {**same, "b": 2}), (LEAVES, ENTERS))

    def test_fixed_columns(self):
        network = single([Column("a", fixed=True)], compare("a", ">=", 5))
        self.assertEqual(self.moves(network, {"a": 7}, {"a": 7}), (STAYS,))
        self.assertEqual(self.moves(network, {"a": 3}, {"a": 3}), (AWAY,))
        self.assertEqual(self.moves(network, {"a": 7}, None), (LEAVES, AWAY))
        # In a copy the cell can change; the sender does not think of this, unless it is told.
        self.assertEqual(self.moves(network, {"a": 3}, {"a": 7}), (STAYS,))
        self.assertEqual(self.moves(network.with_elder(0, ["a"]), {"a": 3}, {"a": 7}), (ENTERS,))
        self.assertEqual(self.moves(network, {"a": 3}, {"a": None}), (AWAY,))

    def test_fixed_large_columns_that_are_unsent(self):
        network = single([Column("a", fixed=True, large=True)], compare("a", ">=", 5))
        self.assertEqual(self.moves(network, {"a": 7}, {"a": 7}), (STAYS, AWAY))
        self.assertEqual(self.moves(network, {"a": 3}, {"a": 7}), (STAYS,))
        self.assertEqual(self.moves(network.with_elder(0, ["a"]), {"a": 7}, {"a": 7}), (STAYS,))

    def test_unknown_cells_are_none_only_in_columns_that_may_be_empty(self):
        for empty, moves in ((False, (AWAY,)), (True, (LEAVES, AWAY))):
            network = single([Column("a", empty=empty), Column("b")], is_empty("a"))
            self.assertEqual(self.moves(network, {"a": 1, "b": 1}, None), moves)
            # Whatever the row really has.
            self.assertEqual(self.moves(network, {"a": None, "b": 1}, None), moves)
        large = single([Column("a", large=True), Column("b")], is_empty("a"))
        self.assertEqual(self.moves(large, {"a": None, "b": 1}, {"a": None, "b": 1}), (AWAY,))
        # None is used where it is told, also in a column that may not be empty.
        elder = large.with_elder(0, ["a"])
        self.assertEqual(self.moves(elder, {"a": None, "b": 1}, {"a": None, "b": 1}), (STAYS,))
        self.assertEqual(self.moves(large, {"a": 1, "b": 1}, {"a": None, "b": 1}), (ENTERS,))
        self.assertEqual(self.moves(large, None, {"a": None, "b": 1}), (ENTERS,))

    def test_integers_between_numbers_count_only_if_there_are_some(self):
        for high, moves in ((4, (AWAY,)), (5, (LEAVES, AWAY))):
            network = single([Column("a")], compare("a", ">", 3) & compare("a", "<", high))
            self.assertEqual(self.moves(network, {"a": 0}, None), moves)

    def test_moves_that_no_change_makes(self):
        # All rows with this view have been in the filter and stay there: a large cell that is told was another one.
        network = single([Column("a", large=True)], compare("a", "!=", 1))
        self.assertEqual(self.moves(network, {"a": 3}, {"a": 1}), (LEAVES, AWAY))
        # No row of the source can be in the filter of this feed, since those before it are not.
        table = Table.of(Column("a"))
        network = Network.of(
            table, Target("x", ["a"]), Target("y", ["a"]),
            Feed("table", "x", where=compare("a", "<", 3)), Feed("x", "y", where=compare("a", ">", 5)),
        )
        self.assertEqual(self.moves(network, {"a": 1}, {"a": 2}, at=1), (LEAVES, AWAY))

    def test_at_a_copy(self):
        table = Table.of(Column("a", fixed=True), Column("b", empty=True))
        network = Network.of(
            table, Target("x", ["b", "a"]), Target("y", ["b"]), Feed("table", "x"),
            Feed("x", "y", where=compare("a", ">=", 5) & is_empty("b")),
        )
        self.assertEqual(self.moves(network, {"a": None, "b": 1}, {"a": 6, "b": None}, at=1), (STAYS, ENTERS))
        self.assertEqual(self.moves(network, {"a": 6, "b": None}, {"a": None, "b": None}, at=1), (AWAY,))

    def test_the_sixteen_parts_of_a_filter_over_three_columns_take_no_long_time(self):
        where = Filter.nothing()
        for number, name in zip(range(15), itertools.cycle("abc")):
            where = where ^ compare(name, "<", number)
        network = single([Column(name, large=True, empty=True) for name in "abc"], where)
        row = {"a": 1, "b": 2, "c": 3}
        self.assertEqual(signal(network, 0, 7, row, row), ((STAYS, AWAY), False))
        self.assertEqual(signal(network, 0, 7, row, {**row, "b": 4}), ((STAYS, LEAVES, ENTERS, AWAY), False))


class Whole(unittest.TestCase):
    def test_whole_tells_whether_there_is_a_row_and_no_column_of_the_target_is_unsent(self):
        columns = [Column("a"), Column("b", large=True)]
        row, other = {"a": 1, "b": 2}, {"a": 1, "b": 3}
        for names, expected in ((["a", "b"], False), (["a"], True), ([], True)):
            network = single(columns, target=names)
            self.assertEqual(signal(network, 0, 7, row, row)[1], expected)
            self.assertIs(signal(network, 0, 7, row, other)[1], True)
            self.assertIs(signal(network, 0, 7, None, row)[1], True)
            self.assertIs(signal(network, 0, 7, row, None)[1], False)
            self.assertIs(signal(network.with_elder(0, ["b"]), 0, 7, row, row)[1], True)

    def test_examples_of_the_document(self):
        self.assertEqual(
            signal(the_example(), 0, 1, {"amount": 3, "note": 2}, {"amount": 7, "note": 2}), ((STAYS, ENTERS), True),
        )
        network = single([Column("a")], compare("a", ">=", 5))
        for before in (1, 7):
            self.assertEqual(signal(network, 0, 1, {"a": before}, {"a": 7}), ((STAYS, ENTERS), True))


class Sent(unittest.TestCase):
    columns = [Column("a"), Column("b", large=True), Column("c")]
    changes = (
        ({"a": 1, "b": 2, "c": 3}, {"a": 4, "b": 2, "c": 3}, {"a": 4}),
        ({"a": 1, "b": 2, "c": 3}, {"a": 4, "b": 5, "c": 3}, {"a": 4, "b": 5}),
        (None, {"a": 4, "b": None, "c": 3}, {"a": 4, "b": None}),
        ({"a": 1, "b": 2, "c": 3}, None, {}),
    )

    def test_each_deed_for_each_change(self):
        kinds = {"put": Put, "change": Change}
        for before, after, cells in self.changes:
            for deed, expected in (("put", cells), ("change", cells), ("take", {})):
                network = single(self.columns, target=["b", "a"], rule=lambda moves, whole: deed)
                message = sent(network, 0, -7, before, after)
                self.assertEqual(told(message), (kinds.get(deed, Take), -7, expected))
            self.assertIsNone(sent(single(self.columns, rule=lambda moves, whole: None), 0, 7, before, after))

    def test_the_rule_gets_the_signal_by_position(self):
        got = []
        def rule(first, second, /):
            got.append((first, second))
        network = single(self.columns, compare("a", ">=", 2), target=["a"], rule=rule)
        for before, after, _ in self.changes:
            sent(network, 0, 7, before, after)
            self.assertEqual(got[-1], signal(network, 0, 7, before, after))
            self.assertEqual(repr(got[-1]), repr((tuple(got[-1][0]), bool(got[-1][1]))))

    def test_plain_rules_and_own_ones(self):
        where = compare("a", ">=", 5)
        before, after = {"a": 7}, {"a": 8}
        for rule, kind in ((None, Change), (doubting, Put), (Rule({((STAYS, ENTERS), True): "take"}), Take)):
            self.assertEqual(told(sent(single([Column("a")], where, rule=rule), 0, 1, before, after))[0], kind)
        self.assertIsNone(sent(single([Column("a")], where), 0, 1, None, {"a": 1}))


class Errors(unittest.TestCase):
    def test_no_feed(self):
        row = {"amount": 1, "note": None}
        for at in (-1, 1, 2, 10 ** 39, -(10 ** 39)):
            for call in CALLS:
                check_raises(self, NoFeed, {"at": at}, call, the_example(), at, 1, None, row)


class SecondReading(unittest.TestCase):
    def test_random_networks(self):
        for seed in range(250):
            rnd = random.Random(seed)
            run = run_model.random_run(rnd, most_columns=3, most_targets=3, most_feeds=4, parts=3)
            network = run.network()
            for _ in range(6):
                at = rnd.randrange(len(run.feeds))
                before, after = self.rows(rnd, run.names_of(run.feeds[at][0]))
                key = rnd.randint(-1, 3)
                about = (seed, at, key, before, after)
                self.assertEqual(view(network, at, key, before, after), run.view(at, before, after), about)
                self.assertEqual(signal(network, at, key, before, after), run.signal(at, key, before, after), about)
                message = sent(network, at, key, before, after)
                short = None if message is None else (message.deed, message.key, message.cells)
                self.assertEqual(short, run.sent(at, key, before, after), about)

    def rows(self, rnd, names):
        """Two random rows, or one of them and None; None also stands in columns that may not be empty."""
        before, after = ({name: rnd.choice([None, -1, 0, 1, 2, 3]) for name in names} for _ in range(2))
        for name in names:
            if rnd.random() < 0.5:
                after[name] = before[name]
        return rnd.choice([(before, after), (before, after), (before, after), (None, after), (before, None)])


if __name__ == "__main__":
    unittest.main()
