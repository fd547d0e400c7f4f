"""Starts: copies that are loaded while changes go on."""

import inspect
import random
import unittest

import run_model
import search_model
from filteredcopies.errors import NotPlain, TooMany
from filteredcopies.filters import Filter, compare, is_empty
from filteredcopies.networks import Feed, Network, Target
from filteredcopies.rules import Rule, doubting
from filteredcopies.starts import Start, judge_start
from filteredcopies.tables import Column, Table
from helpers import check_raises, check_time, the_example
from run_model import OwnRule

A = Table.of(Column("a"))
MILD = {"present": "replace", "lacking": "make", "gone": "skip"}


def single(where=None, elder=(), table=A, columns=None, rule=None, **habits):
    """A network with one feed."""
    target = Target("x", table.names if columns is None else columns, **habits)
    return Network(table, [target], [Feed("table", "x", where=where, elder=elder, rule=rule)])


class Checked(unittest.TestCase):
    def check_start(self, network, mark):
        """Judge a start and check the form of its case."""
        start = judge_start(network, mark=mark)
        self.assertIsInstance(start, Start)
        self.assertIs(bool(start), len(start) == 0)
        self.assertEqual(len(start.later), len(start))
        if start:
            self.assertEqual((start.first, start.later, start.key, start.fault), (None, (), None, None))
            return start
        self.assertIs(start.later.__class__, tuple)
        rows = [start.first, *start.later]
        for before, after in zip(rows, rows[1:]):
            self.assertFalse(before is None and after is None)
            if before is not None and after is not None:
                for column in network.table.columns:
                    self.assertFalse(column.fixed and before[column.name] != after[column.name])
        for cells in rows:
            if cells is not None:
                network.table.check(start.key, cells)
        return start


class Ahead(Checked):
    def test_example_of_the_document(self):
        target = Target("big", ["amount"], **MILD)
        feed = Feed("table", "big", where=compare("amount", ">=", 5), elder=["amount"])
        network = Network(the_example().table, [target], [feed])
        self.assertIs(bool(self.check_start(network, "ahead")), True)
        self.assertEqual(len(self.check_start(network, "behind")), 1)

    def test_an_insertion_is_applied_to_the_row_that_was_loaded(self):
        start = self.check_start(single(gone="skip", lacking="skip"), "ahead")
        self.assertEqual((start.first, len(start), start.fault), (None, 1, "stopped"))
        self.assertIsNotNone(start.later[0])
        for present in ("keep", "replace", "merge"):
            start = self.check_start(single(present=present, gone="skip", lacking="make"), "ahead")
            self.assertIs(bool(start), True, present)

    def test_a_removal_is_applied_where_nothing_was_loaded(self):
        start = self.check_start(single(present="replace", gone="stop"), "ahead")
        self.assertEqual((len(start), start.later, start.fault), (1, (None,), "stopped"))
        self.assertIsNotNone(start.first)

    def test_a_change_of_a_row_that_is_gone_in_the_end(self):
        # Behind the refused message the case goes on, up to the row that was loaded.
        start = self.check_start(single(present="replace", gone="skip", lacking="stop"), "ahead")
        self.assertEqual((len(start), start.later[1], start.fault), (2, None, "stopped"))
        self.assertIsNotNone(start.first)
        self.assertIsNotNone(start.later[0])

    def test_without_a_row_at_both_ends(self):
        # Only a row that is inserted where the copy has none and then removed again shows that it is wrong.
        rule = OwnRule({("enters",): "change"}, lambda moves, whole: None)
        start = self.check_start(single(rule=rule, lacking="stop"), "ahead")
        self.assertEqual((len(start), start.first, start.later[1], start.fault), (2, None, None, "stopped"))

    def test_all_changes_stand_in_later_also_those_behind_a_refused_message(self):
        # An update is refused if the copy has no row; then the row has to go before the moment of the copy.
        rule = OwnRule({("stays",): "change", ("enters",): None, ("leaves",): None}, lambda moves, whole: None)
        start = self.check_start(single(rule=rule, lacking="stop"), "ahead")
        self.assertEqual((len(start), start.fault, start.later[-1]), (2, "stopped", None))

    def test_a_row_with_a_fixed_cell_is_removed_and_inserted(self):
        table = Table.of(Column("a", fixed=True))
        rule = OwnRule({("enters",): "change", ("leaves",): "take"}, lambda moves, whole: None)
        start = self.check_start(single(None, ["a"], table, rule=rule, lacking="skip", gone="skip"), "ahead")
        self.assertEqual((start.fault, len(start), start.later[0]), ("lacks", 2, None))
        # If updates are sent as takes, one is enough; it leaves the cell as it is.
        rule = OwnRule({("stays",): "take"}, lambda moves, whole: None)
        start = self.check_start(single(None, ["a"], table, rule=rule), "ahead")
        self.assertEqual((start.fault, start.later), ("lacks", (start.first,)))

    def test_each_fault(self):
        silent = OwnRule({("stays",): None}, lambda moves, whole: None)
        self.assertIs(bool(self.check_start(single(rule=silent), "ahead")), True)
        left = OwnRule({("leaves",): "put"}, lambda moves, whole: None)
        start = self.check_start(single(rule=left), "ahead")
        self.assertEqual((start.fault, start.later), ("left over", (None,)))
        lacks = OwnRule({("stays",): "take"}, lambda moves, whole: None)
        start = self.check_start(single(rule=lacks), "ahead")
        self.assertEqual((start.fault, len(start)), ("lacks", 1))
        table = Table.of(Column("a"), Column("b", large=True))
        start = self.check_start(single(table=table, **MILD, rule=doubting), "ahead")
        self.assertIs(bool(start), True)
        put = OwnRule({("stays",): "put"}, lambda moves, whole: None)
        start = self.check_start(single(table=table, **MILD, rule=put), "ahead")
        self.assertEqual((start.fault, len(start)), ("unlike", 1))

    def test_an_update_that_leaves_all_cells_is_a_change(self):
        rule = OwnRule({("stays",): "put"}, lambda moves, whole: None)
        start = self.check_start(single(is_empty("a") | compare("a", "=", 1), ["a"], rule=rule), "ahead")
        self.assertEqual((start.first, start.later, start.fault), ({"a": 1}, ({"a": 1},), "stopped"))

    def test_equality_with_the_row_in_the_end(self):
        # The copy gets the cell of the last update that is applied: the last one is always that of the end.
        rule = OwnRule({("stays",): "change", ("leaves",): "take", ("enters",): "put"}, lambda moves, whole: None)
        keep = single(rule=rule, present="keep", lacking="make", gone="skip")
        self.assertIs(bool(self.check_start(keep, "ahead")), True)
        # If updates are not sent, and a put makes the row anew, an old cell stays.
        rule = OwnRule({("leaves",): "take", ("enters",): "put"}, lambda moves, whole: None)
        old = single(rule=rule, **MILD)
        start = self.check_start(old, "ahead")
        self.assertEqual((start.fault, len(start), start.first), ("unlike", 2, None))
        self.assertNotEqual(start.later[0], start.later[1])
        # With one integer between the numbers there is no old cell.
        one = old.with_filter(0, compare("a", ">", 3) & compare("a", "<", 5)).with_elder(0, ["a"])
        self.assertIs(bool(self.check_start(one, "ahead")), True)
        two = old.with_filter(0, compare("a", ">", 3) & compare("a", "<", 6)).with_elder(0, ["a"])
        self.assertEqual(len(self.check_start(two, "ahead")), 2)


class Behind(Checked):
    def test_each_fault_takes_one_change(self):
        start = self.check_start(single(), "behind")
        self.assertEqual(len(start), 1)
        self.assertIn(start.fault, ("left over", "lacks", "unlike"))

    def test_right_if_no_row_is_let_through(self):
        for where in (Filter.nothing(), is_empty("a"), compare("a", ">", 3) & compare("a", "<", 4)):
            self.assertIs(bool(self.check_start(single(where), "behind")), True)
        empty = Table.of(Column("a", empty=True))
        self.assertEqual(len(self.check_start(single(is_empty("a"), table=empty), "behind")), 1)
        only = self.check_start(single(compare("key", "=", 8)), "behind")
        self.assertEqual((only.key, len(only)), (8, 1))

    def test_rules_and_habits_do_not_matter(self):
        for rule in (None, doubting, lambda moves, whole: "take"):
            self.assertEqual(len(self.check_start(single(rule=rule, **MILD), "behind")), 1)


class Errors(Checked):
    def test_not_plain_before_too_many(self):
        table = Table.of(Column("a"), Column("b"), Column("c"))
        wide = single(table=table)
        for mark in ("ahead", "behind"):
            for many in (2, 3, 4):
                network = Network(table, wide.targets, wide.feeds * many)
                check_raises(self, NotPlain, {"many": many}, judge_start, network, mark=mark)
            check_raises(self, TooMany, {"size": 27 ** 4}, judge_start, wide, mark=mark)
            where = compare("a", "<", 1)
            for number in range(2, 7):
                where = where ^ compare("a", "<", number)
            most = single(where, **MILD)
            self.assertEqual(most.span(4), 15 ** 4)
            self.check_start(most, mark)
            more = most.with_filter(0, where ^ compare("a", "<", 7))
            check_raises(self, TooMany, {"size": 17 ** 4}, judge_start, more, mark=mark)

    def test_the_mark_is_passed_by_name_only(self):
        with self.assertRaises(TypeError):
            judge_start(the_example(), "ahead")


class Read(Checked):
    def test_what_is_read_is_new(self):
        for name in ("first", "later"):
            self.assertIsInstance(inspect.getattr_static(Start, name), property)
        start = judge_start(network=single(), mark="behind")
        update = judge_start(single(rule=OwnRule({("stays",): "take"}, lambda moves, whole: None)), mark="ahead")
        for told in (start, update):
            before = repr((told.first, told.later))
            for cells in (told.first, *told.later):
                if cells is not None:
                    cells.clear()
            self.assertEqual(repr((told.first, told.later)), before)

    def test_the_same_call_has_the_same_answer(self):
        for mark in ("ahead", "behind"):
            one, other = judge_start(single(), mark=mark), judge_start(single(), mark=mark)
            self.assertEqual((one.first, one.later, one.key), (other.first, other.later, other.key))


class SecondReading(Checked):
    def test_all_cases_up_to_some_length(self):
        lengths = []
        for seed in range(60):
            rnd = random.Random(seed)
            choices = {"wild": 0.5, "mild": rnd.choice([0.3, 0.6, 0.9]), "most_targets": 1, "most_feeds": 1}
            if seed % 5 < 4:
                run = run_model.random_run(rnd, most_columns=1, most_number=1, parts=3, **choices)
            else:
                run = run_model.random_run(rnd, most_columns=2, most_number=0, parts=2, key=0, **choices)
            network = run.network()
            if network.span(4) > 60000:
                continue
            rows = len(search_model.Space([run], 3).rows())
            most = 3 if rows <= 8 and seed % 2 else 2 if rows <= 12 else 1
            for mark in ("ahead", "behind"):
                start = self.check_start(network, mark)
                lengths.append(len(start))
                many, faults = search_model.started(run, mark, most)
                if many:
                    self.assertEqual(len(start), many, (seed, mark))
                    self.assertIn(start.fault, faults, (seed, mark))
                else:
                    self.assertFalse(0 < len(start) <= most, (seed, mark))
                if not start:
                    found = search_model.case_fault(run, mark, start.key, start.first, start.later)
                    self.assertEqual(found, start.fault, (seed, mark))
        self.assertTrue({0, 1, 2} <= set(lengths))

    def test_at_the_bounds_it_comes_to_its_end(self):
        where = Filter.every()
        for number in range(6):
            where = where ^ compare("a", "<", 2 * number)
        one = Table.of(Column("a", empty=True, large=True))
        two = Table.of(Column("a", empty=True), Column("b", empty=True, large=True))
        lazy = Rule({(("stays", "enters"), True): None, (("leaves", "away"), True): None, (("stays", "away"), False): None})
        for network in (
            single(where, table=one, **MILD), single(is_empty("a") | where, ["a"], one, **MILD),
            single(compare("b", "<", 1) & is_empty("a"), ["b"], two, **MILD), single(compare("a", "<", 1), (), two, **MILD),
        ):
            self.assertEqual(network.span(4), 15 ** 4)
            for rule in (None, doubting, lazy):
                for mark in ("ahead", "behind"):
                    with check_time(self, 20):
                        self.check_start(network.with_rule(0, rule), mark)


if __name__ == "__main__":
    unittest.main()
