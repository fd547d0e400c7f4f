"""Verdicts: whether copies are right for all histories, shortest histories that show it, and holdings."""

import inspect
import itertools
import random
import unittest

import run_model
import search_model
from filteredcopies.errors import NoHolding, NoTarget, Stopped, TooMany
from filteredcopies.filters import Filter, compare, is_empty
from filteredcopies.judging import Verdict, judge
from filteredcopies.networks import Feed, Network, Target
from filteredcopies.rules import Rule, doubting
from filteredcopies.runs import Run
from filteredcopies.tables import Column, Table
from helpers import ANY_VALUES, check_raises, check_time, the_example
from run_model import OwnRule

A = Table.of(Column("a"))
MILD = {"present": "replace", "lacking": "make", "gone": "skip"}
ALL = ("stays", "leaves", "enters", "away")


def single(columns, where=None, elder=(), rule=None, **habits):
    """A network with one feed, and a copy of all columns."""
    table = Table(columns)
    return Network(table, [Target("x", table.names, **habits)], [Feed("table", "x", where=where, elder=elder, rule=rule)])


class Checked(unittest.TestCase):
    def check_verdict(self, network, names=None, about=None):
        """Judge a network and check that the verdict shows by runs what it says."""
        verdict = judge(network, names=names)
        named = [target.name for target in network.targets if names is None or target.name in names]
        self.assertIsInstance(verdict, Verdict)
        self.assertIs(bool(verdict), len(verdict) == 0, about)
        self.assertEqual(len(verdict.history), len(verdict), about)
        if verdict:
            self.assertEqual((verdict.history, verdict.fault, verdict.key), ((), None, None), about)
            self.assertEqual(verdict.holdings, tuple(sorted(set(verdict.holdings))), about)
            for holding in verdict.holdings:
                self.check_shown(network, verdict, holding, named, about)
        else:
            self.assertEqual(verdict.holdings, (), about)
            self.check_history(network, verdict, named, about)
        return verdict

    def check_steps(self, network, history, about):
        """Check the form of a history on one key."""
        self.assertIs(history.__class__, tuple, about)
        self.assertEqual(len({key for key, _, _ in history}), 1, about)
        for step in history:
            self.assertIs(step.__class__, tuple, about)
            key, cells, order = step
            self.assertIs(order.__class__, tuple, about)
            self.assertEqual(sorted(order), list(range(len(network.feeds))), about)
            self.assertTrue(all(abs(cell) < 10 ** 40 for cell in [key, *(cells or {}).values()] if cell is not None))

    def check_shown(self, network, verdict, holding, named, about):
        history = verdict.shown(holding)
        self.check_steps(network, history, about)
        self.assertGreaterEqual(len(history), 1, about)
        run = Run(network)
        for key, cells, order in history:
            run.step(key, cells, order=order)
            self.assertEqual([fault for fault in run.faults() if fault[0] in named], [], about)
        self.assertEqual(tuple(run.holders(target.name, key) for target in network.targets), holding, about)

    def check_history(self, network, verdict, named, about):
        *first, (key, cells, order) = verdict.history
        self.check_steps(network, verdict.history, about)
        self.assertEqual(verdict.key, key, about)
        run = Run(network)
        for step in first:
            run.step(step[0], step[1], order=step[2])
            self.assertEqual([fault for fault in run.faults() if fault[0] in named], [], about)
        if verdict.fault[0] == "stopped":
            with self.assertRaises(Stopped) as caught:
                run.step(key, cells, order=order)
            self.assertEqual(network.feeds[caught.exception.at].target, verdict.fault[1], about)
        else:
            run.step(key, cells, order=order)
            wrong = [(fault, name) for name, _, fault in run.faults() if name in named]
            self.assertEqual(wrong[0], verdict.fault, about)


class Examples(Checked):
    def test_example_of_the_document(self):
        verdict = self.check_verdict(the_example())
        self.assertEqual([bool(verdict), len(verdict), verdict.fault], [False, 2, ("stopped", "big")])

    def test_the_habits_of_the_document(self):
        # The rule trusting makes it right without elder columns, if no column is large.
        where = compare("a", ">=", 5) & (compare("b", "=", 1) | compare("a", "<", 8))
        columns = [Column("a"), Column("b")]
        self.assertTrue(self.check_verdict(single(columns, where, lacking="make", gone="skip")))
        large = self.check_verdict(single([Column("a"), Column("b", large=True)], where, lacking="make", gone="skip"))
        self.assertEqual((len(large), large.fault), (2, ("unlike", "x")))
        self.assertTrue(self.check_verdict(single(columns, where, elder=["a", "b"])))
        self.assertTrue(self.check_verdict(single(columns, where, rule=doubting, present="replace", gone="skip")))


class Faults(Checked):
    def test_each_fault(self):
        never = OwnRule({}, lambda moves, whole: None)
        cases = (
            (OwnRule({("enters",): None}, lambda moves, whole: None), 1, "lacks"),
            (OwnRule({("enters",): "put"}, lambda moves, whole: None), 2, "left over"),
            (OwnRule({("enters",): "put", ("stays",): None, ("leaves",): "take"}, never), 2, "unlike"),
            (OwnRule({("enters",): "put", ("stays",): "put", ("leaves",): "take"}, never), 2, "stopped"),
            (OwnRule({("enters",): "change"}, never), 1, "stopped"),
            (OwnRule({("enters",): "take"}, never), 1, "stopped"),
        )
        for rule, many, fault in cases:
            verdict = self.check_verdict(single([Column("a")], elder=["a"], rule=rule))
            self.assertEqual((len(verdict), verdict.fault), (many, (fault, "x")))

    def test_the_first_copy_in_the_order_of_the_targets(self):
        never = OwnRule({}, lambda moves, whole: None)
        network = Network.of(
            A, Target("y", ["a"]), Target("x", ["a"]), Feed("table", "x", rule=never), Feed("table", "y", rule=never),
        )
        self.assertEqual(self.check_verdict(network).fault, ("lacks", "y"))
        self.assertEqual(self.check_verdict(network, ["x", "y"]).fault, ("lacks", "y"))
        self.assertEqual(self.check_verdict(network, ["x"]).fault, ("lacks", "x"))
        self.assertTrue(self.check_verdict(network, []))

    def test_the_target_of_the_refused_message_need_not_be_named(self):
        network = Network.of(
            A, Target("x", ["a"]), Target("y", ["a"]), Feed("table", "x"),
            Feed("x", "y", rule=OwnRule({("stays",): "put"}, lambda moves, whole: "put" if "enters" in moves else None)),
        )
        for names in ([], ["x"], ["x", "x"]):
            verdict = self.check_verdict(network, names)
            self.assertEqual((len(verdict), verdict.fault), (2, ("stopped", "y")))

    def test_only_for_some_keys(self):
        network = single([Column("a")], compare("key", "=", 12) | compare("key", ">", 40))
        gone = network.with_rule(0, OwnRule({("enters",): "take"}, lambda moves, whole: None))
        verdict = self.check_verdict(gone)
        self.assertTrue(verdict.key == 12 or verdict.key > 40)
        for number in (10 ** 29, -(10 ** 30) + 1):
            far = gone.with_filter(0, compare("key", "=", number))
            self.assertEqual(self.check_verdict(far).key, number)
            self.assertTrue(self.check_verdict(far.with_filter(0, compare("key", "=", number) & compare("key", "<", number))))

    def test_only_for_some_orders(self):
        # The feeds meet: a row can be taken out by the one after it was put in by the other.
        network = Network.of(
            A, Target("x", ["a"], **MILD), Feed("table", "x", where=compare("a", "<", 5), elder=["a"]),
            Feed("table", "x", where=compare("a", ">=", 5), elder=["a"]),
        )
        verdict = self.check_verdict(network)
        self.assertEqual((len(verdict), verdict.fault), (2, ("lacks", "x")))
        shared = network.turned("x", shared="all")
        self.assertEqual(self.check_verdict(shared).holdings, (((),), ((0,),), ((1,),)))
        for order in ((0, 1), (1, 0)):
            run = Run(network)
            run.play([(1, {"a": 7}, ()), (1, {"a": 1}, order)])
            self.assertIs(run.is_even, order == (1, 0))

    def test_a_row_that_is_inserted_again(self):
        # No message takes a row out or changes it: so the row stays, and a put comes when it is inserted again.
        rule = OwnRule({("enters",): "put"}, lambda moves, whole: None)
        network = single([Column("a", fixed=True)], elder=["a"], rule=rule, present="stop")
        self.assertEqual(self.check_verdict(network).fault, ("left over", "x"))
        verdict = self.check_verdict(network, [])
        self.assertEqual((len(verdict), verdict.fault), (3, ("stopped", "x")))
        self.assertEqual(self.check_verdict(network.turned("x", present="keep"), []).holdings, (((0,),),))


class Integers(Checked):
    """Of an integer only its place among the numbers counts, and what it is equal to."""

    silent = OwnRule({("stays",): None, ("enters",): "put", ("leaves",): "take"}, lambda moves, whole: None)

    def test_how_many_integers_lie_between_two_numbers(self):
        for high, right in ((5, True), (6, False), (10 ** 29, False)):
            where = compare("a", ">", 3) & compare("a", "<", high)
            network = single([Column("a")], where, elder=["a"], rule=self.silent)
            self.assertIs(bool(self.check_verdict(network)), right)
            self.assertIs(bool(self.check_verdict(network, ["x"])), right)

    def test_outer_gaps_and_a_table_without_numbers(self):
        for where in (compare("a", "<", 3), compare("a", ">", 3), None, compare("a", "!=", 3)):
            verdict = self.check_verdict(single([Column("a")], where, elder=["a"], rule=self.silent))
            self.assertEqual((len(verdict), verdict.fault), (2, ("unlike", "x")))
        self.assertTrue(self.check_verdict(single([Column("a")], compare("a", "=", 3), elder=["a"], rule=self.silent)))

    def test_none_is_a_cell_of_columns_that_may_be_empty(self):
        for empty in (False, True):
            network = single([Column("a", empty=empty)], is_empty("a") | compare("a", "=", 3), elder=["a"], rule=self.silent)
            self.assertIs(bool(self.check_verdict(network)), not empty)

    def test_equality_with_a_cell_of_a_copy_that_is_wrong(self):
        # The first copy keeps a row that was removed, until one with this key is inserted again.
        first = OwnRule({("enters",): "put", ("leaves",): None}, lambda moves, whole: None)
        second = OwnRule({("enters",): "put", ("stays",): "put", ("leaves",): "take"}, lambda moves, whole: None)
        for fixed in (False, True):
            network = Network.of(
                Table.of(Column("a", fixed=fixed)), Target("x", ["a"], present="replace"), Target("y", ["a"]),
                Feed("table", "x", rule=first, elder=["a"]), Feed("x", "y", rule=second, elder=["a"]),
            )
            # Insert, remove, insert with the same cell: no change of x. With another cell y is sent a put.
            verdict = self.check_verdict(network, [])
            self.assertEqual((len(verdict), verdict.fault), (3, ("stopped", "y")))
            cells = [cells for _, cells, _ in verdict.history]
            self.assertIsNone(cells[1])
            self.assertNotEqual(cells[0], cells[2])
            # If there is one integer only that is let through, there is no other cell.
            self.assertTrue(self.check_verdict(network.with_filter(0, compare("a", "=", 3)), []))

    def test_far_numbers(self):
        for number in (10 ** 30 - 1, -(10 ** 30) + 1):
            verdict = self.check_verdict(single([Column("a")], compare("a", ">=", number)))
            self.assertEqual(len(verdict), 2)


class Names(Checked):
    def test_no_target_before_too_many(self):
        wide = single([Column("a"), Column("b"), Column("c")], compare("a", "<", 1) ^ compare("b", "<", 1))
        for names, name in ((["y"], "y"), (["x", "table"], "table"), (["X", "x"], "X"), (["x", "z", "y"], "z")):
            check_raises(self, NoTarget, {"name": name}, judge, wide, names=names)
        self.assertEqual(wide.span(3), 5 ** 6 * 27)
        for names in (["x"], [], ["x", "x"]):
            check_raises(self, TooMany, {"size": wide.span(3)}, judge, wide, names=names)

    def test_names_are_passed_by_name_only(self):
        with self.assertRaises(TypeError):
            judge(the_example(), ["big"])

    def test_names_are_not_changed(self):
        names = ["big", "big"]
        self.assertEqual(len(judge(network=the_example(), names=names)), 2)
        self.assertEqual(names, ["big", "big"])

    def test_a_later_copy_can_be_right_though_an_earlier_one_is_not(self):
        # The first copy has an empty cell for each large one that was not sent; the second one does not have it.
        table = Table.of(Column("a"), Column("b", large=True))
        network = Network.of(
            table, Target("x", ["a", "b"], **MILD), Target("y", ["a"], **MILD),
            Feed("table", "x", where=compare("a", ">=", 5)), Feed("x", "y"),
        )
        self.assertEqual(self.check_verdict(network).fault, ("unlike", "x"))
        self.assertTrue(self.check_verdict(network.with_filter(0, None), ["x", "y"]))
        narrow = network.with_filter(0, None)
        chosen = Network(table, narrow.targets, [*narrow.feeds[:1], Feed("table", "y", where=compare("a", ">=", 5))])
        self.assertTrue(self.check_verdict(chosen, ["y"]))

    def test_all_names_are_like_none(self):
        for seed in range(30):
            run = run_model.random_run(random.Random(seed), most_columns=1, most_number=0, mild=0.9)
            network = run.network()
            names = [target.name for target in network.targets]
            if network.weight() <= 128 and network.span(2 + len(names)) <= 60000:
                one, other = judge(network), judge(network, names=names)
                self.assertEqual((len(one), one.holdings), (len(other), other.holdings), seed)


class Sizes(Checked):
    def test_too_many(self):
        three = [Column("a"), Column("b"), Column("c")]
        parts = [compare("a", "<", 1), compare("b", "<", 1), compare("c", "<", 1), compare("key", "<", 1)]
        most = single(three, parts[0] & parts[1] & parts[2])
        self.assertEqual(most.weight(), 128)
        self.assertFalse(self.check_verdict(most))
        above = single(three, parts[0] & parts[1] & parts[2] & parts[3])
        check_raises(self, TooMany, {"size": 384}, judge, above)
        more = single(three, parts[0] & compare("a", "<", 2) & parts[1] & parts[2])
        check_raises(self, TooMany, {"size": 192}, judge, more)
        # With names only the span counts, and without names only the weight.
        self.assertGreater(most.span(3), 60000)
        many = single([Column("a")], Filter.every())
        for number in range(31):
            many = many.with_filter(0, many.feeds[0].where & compare("a", "!=", number))
        self.assertEqual((many.weight(), many.span(3)), (128, 65 ** 3))
        self.assertFalse(self.check_verdict(many))
        check_raises(self, TooMany, {"size": 65 ** 3}, judge, many, names=[])
        for many_numbers, right in ((18, True), (19, False)):
            where = Filter.every()
            for number in range(many_numbers):
                where = where & compare("a", "!=", number)
            network = single([Column("a")], where, **MILD)
            self.assertIs(network.span(3) <= 60000, right)
            if right:
                self.assertTrue(self.check_verdict(network, ["x"]))
            else:
                check_raises(self, TooMany, {"size": 41 ** 3}, judge, network, names=["x"])

    def test_the_arrangements_count(self):
        network = Network.of(A, Target("x", ["a"], **MILD, shared="all"), *[Feed("table", "x")] * 3)
        self.assertEqual(network.weight(), 6 * 8 * 2)
        self.assertTrue(self.check_verdict(network))
        four = Network.of(A, Target("x", ["a"], **MILD, shared="all"), *[Feed("table", "x")] * 4)
        check_raises(self, TooMany, {"size": 24 * 16 * 2}, judge, four)
        self.assertTrue(self.check_verdict(four, ["x"]))

    def test_at_the_bounds_it_comes_to_its_end(self):
        for network, names in bounds():
            if names is None:
                self.assertLessEqual(network.weight(), 128)
            else:
                self.assertLessEqual(network.span(2 + len(network.targets)), 60000)
            with check_time(self, 20):
                self.check_verdict(network, names)


def lazy(moves, whole):
    """Leaves the copy as it is when the sender doubts; so it has all kinds of old cells."""
    return {("enters",): "put", ("leaves",): "take"}.get(moves)


def bounds():
    """Networks just within the bounds, with the names to judge."""
    both = compare("a", "<", 1) & compare("b", "<", 1) | compare("c", "<", 1)
    three = [Column("a", empty=True), Column("b", large=True, empty=True), Column("c", empty=True)]
    found = []
    for rule in (None, doubting, lazy):
        for elder in ([], ["a", "b", "c"]):
            found.append((single(three, both, elder, rule, **MILD), None))
            found.append((single(three, None, elder, rule, **MILD), []))
        where = Filter.every()
        for number in range(16):
            where = where ^ compare("a", "<", 2 * number)
        found.append((single([Column("a", empty=True, large=True)], where, (), rule, **MILD), []))
        found.append((single([Column("a", empty=True)], where, (), rule, **MILD), ["x"]))
        two = [Column("a", empty=True), Column("b", empty=True, large=True)]
        parts = compare("a", "<", 1) | compare("a", ">", 3) & compare("b", "!=", 7)
        found.append((single(two, parts, ["b"], rule, **MILD), []))
        found += meeting_bounds(rule) + chain_bounds(rule)
    return found


def meeting_bounds(rule):
    """Four feeds to one copy; three to a copy and one to a later one; feeds that meet behind two copies."""
    table = Table.of(Column("a", empty=True, large=True))
    wheres = [compare("a", "<", 3), compare("a", ">", 3), compare("a", "=", 3), compare("a", "!=", 3)]
    feeds = [Feed("table", "x", where=where, rule=rule, elder=["a"][:at % 2]) for at, where in enumerate(wheres)]
    target = Target("x", ["a"], **MILD, shared="all")
    diamond = [
        Feed("table", "x", where=wheres[0], rule=rule, elder=["a"]), Feed("table", "y", where=wheres[3], rule=rule),
        Feed("x", "z", rule=rule, elder=["a"]), Feed("y", "z", rule=rule),
    ]
    late = [*feeds[:3], Feed("x", "y", rule=rule)]
    return [
        (Network(table, [target], feeds), []), (Network(table, [target], feeds), ["x"]),
        (Network(table, [target, Target("y", ["a"], **MILD)], late), []),
        (Network(table, [Target(name, ["a"], **MILD, shared="all") for name in "xyz"], diamond), []),
    ]


def chain_bounds(rule):
    """Three copies in a chain and side by side, with three numbers."""
    table = Table.of(Column("a", empty=True, large=True))
    wheres = [compare("a", "<", 9), compare("a", ">=", 3), compare("a", "!=", 6)]
    targets = [Target(name, ["a"], **{**MILD, "present": how}) for name, how in zip("xyz", ("replace", "keep", "merge"))]
    found = []
    for sources in (("table", "x", "y"), ("table", "table", "x"), ("table", "table", "table")):
        for elder in ([], ["a"]):
            feeds = [
                Feed(source, name, where=where, rule=rule, elder=elder if name == "z" else [])
                for source, name, where in zip(sources, "xyz", wheres)
            ]
            found += [(Network(table, targets, feeds), names) for names in ([], ["z"], None)]
    return found


class Holdings(Checked):
    def test_holders_of_feeds_that_meet(self):
        network = Network.of(
            A, Target("x", ["a"], **MILD, shared="all"),
            Feed("table", "x", where=compare("a", "<", 5), elder=["a"]),
            Feed("table", "x", where=compare("a", ">", 2), elder=["a"]),
        )
        verdict = self.check_verdict(network)
        self.assertEqual(verdict.holdings, (((),), ((0,),), ((0, 1),), ((1,),)))
        self.assertEqual(self.check_verdict(network, ["x"]).holdings, verdict.holdings)

    def test_holdings_have_all_copies_named_or_not(self):
        network = Network.of(
            A, Target("x", ["a"], **MILD), Target("y", [], **MILD), Feed("table", "x", elder=["a"]),
            Feed("x", "y", where=compare("a", "<", 5)),
        )
        for names in (None, [], ["y"], ["x", "y"]):
            self.assertEqual(self.check_verdict(network, names).holdings, (((), ()), ((0,), ()), ((0,), (1,))))

    def test_behind_a_step_there_need_be_no_empty_copy(self):
        # The row stays for ever, and behind no step it is not there.
        network = single([Column("a")], rule=lambda moves, whole: None if "leaves" in moves else "put", present="keep")
        self.assertEqual(self.check_verdict(network, []).holdings, (((0,),),))

    def test_shown_takes_any_value(self):
        verdict = judge(single([Column("a")], elder=["a"]))
        self.assertEqual(verdict.holdings, (((),), ((0,),)))
        near = [((),) * 2, ((0,), ()), ((False,),), ((1,),), ([0],), [(0,)], ((0, 0),), (0,), ((None,),), ((-1,),), (((),),)]
        for value in ANY_VALUES + near:
            check_raises(self, NoHolding, {"holding": value}, verdict.shown, value)
        self.assertEqual(len(verdict.shown(holding=((0,),))), 1)
        wrong = judge(the_example())
        for value in ANY_VALUES + [((),), ((0,),)]:
            check_raises(self, NoHolding, {"holding": value}, wrong.shown, value)


class Read(Checked):
    def test_what_is_read_is_new(self):
        wrong, right = judge(the_example()), judge(single([Column("a")], elder=["a"]))
        self.assertIsInstance(inspect.getattr_static(Verdict, "history"), property)
        for read in (lambda: wrong.history, lambda: right.shown(((0,),))):
            first = repr(read())
            read()[0][1].clear()
            self.assertEqual(repr(read()), first)
        self.assertEqual(right.history, ())

    def test_the_same_call_has_the_same_answer(self):
        for network in (the_example(), single([Column("a")], elder=["a"])):
            one, other = judge(network), judge(network)
            self.assertEqual((one.history, one.holdings), (other.history, other.holdings))
            self.assertEqual([one.shown(told) for told in one.holdings], [other.shown(told) for told in other.holdings])


class SecondReading(Checked):
    def networks(self, seeds):
        """Random small networks: with two feeds, chains, feeds that meet, two columns, own rules, all habits."""
        for seed in seeds:
            rnd = random.Random(seed)
            draw = seed % 10
            choices = {"wild": 0.4, "mild": rnd.choice([0.4, 0.8, 0.9]), "parts": 3}
            if draw < 5:
                sizes = {"most_columns": 1, "most_targets": 2, "most_feeds": 2, "most_number": 1}
            elif draw < 7:
                sizes = {"most_columns": 1, "most_targets": 1, "most_feeds": 3, "most_number": 1, "key": 0}
            elif draw < 9:
                sizes = {"most_columns": 1, "most_targets": 1, "most_feeds": 1, "most_number": 2}
            else:
                sizes = {"most_columns": 2, "most_targets": 1, "most_feeds": 1, "most_number": 0, "key": 0}
            yield seed, rnd, run_model.random_run(rnd, **choices, **sizes)

    def test_all_states_over_enough_integers(self):
        for seed, rnd, run in self.networks(range(80)):
            network = run.network()
            told = [target.name for target in network.targets]
            for names in (None, [], [rnd.choice(told)]):
                size = network.weight() if names is None else network.span(2 + len(told))
                if size > (128 if names is None else 3000):
                    continue
                verdict = self.check_verdict(network, names, seed)
                many, faults, holdings = search_model.judged(run, told if names is None else names)
                self.assertEqual((len(verdict), verdict.holdings), (many, holdings), seed)
                if many:
                    self.assertIn(verdict.fault[0], faults, seed)

    def test_all_short_histories_in_a_run(self):
        for seed, _, run in self.networks(range(200, 260)):
            network = run.network()
            if network.weight() <= 128:
                verdict = judge(network)
                met = self.play_all(run, network, len(verdict) - 1 if len(verdict) else 3, seed)
                if verdict:
                    self.assertTrue(set(met) <= set(verdict.holdings), seed)

    def play_all(self, run, network, most, seed):
        """Play all histories up to this length on one key, none of which goes wrong; returns the holdings."""
        space = search_model.Space([run], 1)
        rows = space.rows()[:12]
        orders = list(itertools.permutations(range(len(network.feeds))))[:3]
        found = []
        for length in range(1, min(most, 3 if len(rows) * len(orders) < 8 else 2) + 1):
            for history in itertools.product([None, *rows], repeat=length):
                for order in orders:
                    found += self.play(network, [(space.keys[1], cells, order) for cells in history], seed)
        return found

    def play(self, network, history, seed):
        played = Run(network)
        for key, cells, order in history:
            if cells is None and key not in played.rows():
                return []
            old = played.rows().get(key)
            fixed = [column.name for column in network.table.columns if column.fixed]
            if cells is not None and old is not None and any(old[name] != cells[name] for name in fixed):
                return []
            played.step(key, cells, order=order)
            self.assertIs(played.is_even, True, (seed, history))
        return [tuple(played.holders(target.name, history[0][0]) for target in network.targets)]

    def test_renewed_filters_leave_right_what_is_right(self):
        many = 0
        for seed in range(150):
            rnd = random.Random(seed)
            run = run_model.random_run(rnd, most_targets=3, most_feeds=3, most_number=1, mild=0.95, wild=0)
            network = run.network()
            if not run_model.is_plain(run) or network.weight() > 128 or not judge(network):
                continue
            at = rnd.randrange(len(run.feeds))
            columns = network.columns_of(network.feeds[at].source)
            where = compare(rnd.choice([*columns, "key"]), rnd.choice(["<", ">=", "=", "!="]), rnd.randint(0, 2))
            if network.with_filter(at, where).weight() > 128 or not judge(network.with_filter(at, where)):
                continue
            many += 1
            played = Run(network)
            for key in range(-2, 5):
                played.step(key, {column.name: rnd.randint(-1, 3) for column in network.table.columns})
            self.assertIs(played.is_even, True, seed)
            played.renew(at, where)
            self.assertIs(played.is_even, True, seed)
        self.assertGreater(many, 20)


if __name__ == "__main__":
    unittest.main()
