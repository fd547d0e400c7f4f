"""Filters that are equal over all integers and None, and the outcomes where not all cells are known."""

import random
import unittest

import model
from filteredcopies.filters import Filter, compare, is_empty, outcomes
from filteredcopies.tables import Column, Table
from helpers import ANY_VALUES


class Equal(unittest.TestCase):
    def check_equal(self, one, other):
        for f, g in ((one, other), (other, one)):
            self.assertIs(f == g, True)
            self.assertIs(f != g, False)

    def check_unlike(self, one, other):
        for f, g in ((one, other), (other, one)):
            self.assertIs(f == g, False)
            self.assertIs(f != g, True)

    def test_examples_of_the_document(self):
        a_less, a_more = compare("a", "<", 5), compare("a", ">=", 5)
        self.check_unlike(a_less | a_more, Filter.every())
        self.check_equal(a_less | a_more, compare("a", "!=", 5) | compare("a", "=", 5))
        self.check_equal(compare("a", ">", 3) & compare("a", "<", 4), Filter.nothing())
        self.check_equal(compare("a", "=", 5), compare("a", "=", 5) & ~is_empty("a"))

    def test_each_cell_counts_with_none(self):
        whole = compare("a", "<", 5) | compare("a", ">=", 5)
        self.check_equal(whole | is_empty("a"), Filter.every())
        self.check_equal(whole, ~is_empty("a"))
        self.check_unlike(is_empty("a"), Filter.nothing())
        self.check_unlike(is_empty("a"), is_empty("b"))

    def test_a_key_is_never_none(self):
        self.check_equal(compare("key", "<", 5) | compare("key", ">=", 5), Filter.every())
        self.check_equal(is_empty("key"), Filter.nothing())
        self.check_equal(compare("key", "=", 5), ~compare("key", "!=", 5))

    def test_no_integer_between_neighbours(self):
        for number in (0, -1, 3, 10 ** 30 - 2, -(10 ** 30) + 1):
            above = compare("a", ">", number)
            self.check_equal(above & compare("a", "<", number + 1), Filter.nothing())
            self.check_unlike(above & compare("a", "<", number + 2), Filter.nothing())
            self.check_equal(above & compare("a", "<", number + 2), compare("a", "=", number + 1))
            self.check_equal(above, compare("a", ">=", number + 1))
            self.check_unlike(above, compare("a", ">=", number + 2))

    def test_all_integers_count(self):
        self.check_unlike(compare("a", ">", 10 ** 30 - 1), Filter.nothing())
        self.check_unlike(compare("key", "<", 1 - 10 ** 30), Filter.nothing())
        self.check_unlike(compare("a", ">", 0) & compare("a", "<", 10 ** 30 - 1), Filter.nothing())
        self.check_unlike(compare("a", "<", 10 ** 29), compare("a", "<", 10 ** 29 + 1))

    def test_names_that_only_one_mentions(self):
        a, b = compare("a", "=", 1), compare("b", "=", 1)
        self.check_unlike(a, b)
        self.check_unlike(a, a & b)
        self.check_equal(a, a | a & b)
        self.check_equal(a, a & (b | Filter.every()))
        self.check_unlike(a, a & (b | ~b))
        self.check_equal(Filter.every(), ~Filter.nothing())
        self.check_unlike(Filter.every(), Filter.nothing())

    def test_three_names(self):
        a, b, c = compare("a", "<", 1), compare("b", ">", 2), is_empty("c")
        self.check_equal((a | b) & c, a & c | c & b)
        self.check_unlike((a | b) & c, a & c | b)
        key = compare("key", "!=", 3)
        self.check_equal((key & a) ^ (key & b), key & (a ^ b) | key & a & ~b)
        self.check_unlike(a ^ b, a & ~b | ~a & b | a)

    def test_unknown_and_false_are_both_not_in(self):
        self.check_equal(compare("a", "=", 5) & compare("b", "=", 5), ~(~compare("a", "=", 5) | ~compare("b", "=", 5)))
        self.check_unlike(~(compare("a", "=", 5) & ~is_empty("a")), ~compare("a", "=", 5))
        self.check_equal(compare("a", "=", 1) ^ compare("a", "=", 1), Filter.nothing())
        self.check_unlike(~(compare("a", "=", 1) ^ compare("a", "=", 1)), Filter.every())

    def test_nothing_of_another_class_is_equal(self):
        for value in ANY_VALUES + [Column("a"), Table.of(Column("a")), Filter]:
            self.assertFalse(Filter.every() == value)
            self.assertTrue(compare("a", "=", 1) != value)

    def test_random_filters_against_the_slow_model(self):
        draw = random.Random(81)
        counts = {True: 0, False: 0}
        for _ in range(2500):
            names = draw.choice([["a"], ["key"], ["a", "b"], ["a", "key"], ["a", "b", "key"], ["a", "b", "c"]])
            most = 1 if len(names) == 3 else 2
            one = model.random_formula(draw, names, draw.randint(1, 4), most)
            other = model.random_formula(draw, names, draw.randint(1, 4), most)
            expected = model.same(one, other)
            counts[expected] += 1
            self.assertIs(model.built(one) == model.built(other), expected, f"{one} {other}")
        self.assertGreater(min(counts.values()), 50)

    def test_random_filters_that_differ_in_one_number(self):
        draw = random.Random(82)
        for _ in range(300):
            one = model.random_formula(draw, ["a", "b"], draw.randint(2, 5), 4)
            part = draw.choice(model.parts_of(one) or [("every",)])
            other = replaced(one, part, (*part[:3], part[3] + draw.choice([-1, 1]))) if len(part) == 4 else ("~", one)
            self.assertIs(model.built(one) == model.built(other), model.same(one, other), f"{one} {other}")


def replaced(formula, part, new):
    """The formula with another part in the place of one part."""
    if formula == part:
        return new
    return tuple(replaced(inner, part, new) if isinstance(inner, tuple) else inner for inner in formula)


class Large(unittest.TestCase):
    def test_sixteen_parts_each_over_three_names(self):
        names = ["a", "b", "key"]
        one = Filter.nothing()
        other = Filter.nothing()
        for at in range(15):
            one = one | compare(names[at % 3], "=", 10 * at)
            other = compare(names[at % 3], "=", 10 * at) | other
        self.assertIs(one == other, True)
        for at in range(15):
            without = Filter.nothing()
            for place in range(15):
                if place != at:
                    without = without | compare(names[place % 3], "=", 10 * place)
            self.assertIs(one == without, False)

    def test_a_difference_at_one_entry_of_thousands(self):
        a, b, c = (self.staircase(name) for name in ("a", "b", "c"))
        for cell in (-1, 3, 31, 40, 10 ** 29):
            one = compare("a", "=", cell) & compare("b", "=", cell) & is_empty("c")
            self.assertIs(a & b & c | one & Filter.every() == a & b & c, False)
        self.assertIs(a & b & c == c & b & a, True)
        self.assertIs(a | b | c == c | (b | a), True)

    def staircase(self, name):
        """A filter of five parts with the integers of some far stretches."""
        low = compare(name, ">", 0) & compare(name, "<", 10)
        high = compare(name, ">", 20) & compare(name, "<", 10 ** 29)
        return (low | high) & compare(name, "!=", 5)

    def test_twenty_deep_and_deeper(self):
        for depth in (20, 21, 60):
            chosen = compare("a", "<", 5)
            for _ in range(depth):
                chosen = ~chosen
            self.assertIs(chosen == compare("a", "<", 5) if depth % 2 == 0 else chosen == compare("a", ">=", 5), True)
            self.assertIs(chosen.truth(0, {"a": 4}), depth % 2 == 0)
            self.assertIsNone(chosen.truth(0, {"a": None}))
        chosen = Filter.nothing()
        for at in range(20):
            chosen = ~(chosen | compare("a", "=", at))
        cells = [cell for cell in range(-1, 21) if (0, {"a": cell}) in chosen]
        # A number at an even place is negated an odd number of times behind its comparison.
        self.assertEqual(cells, [0, 2, 4, 6, 8, 10, 12, 14, 16, 18])

    def test_random_large_filters_against_the_slow_model(self):
        draw = random.Random(83)
        for _ in range(40):
            formula = model.random_formula(draw, ["a", "b", "c", "key"], 16, 5)
            chosen = model.built(formula)
            self.assertEqual(chosen.mentions(), model.mentions_of(formula))
            for name in ("a", "b", "c", "key", "d"):
                self.assertEqual(chosen.numbers(name), model.numbers_of(name, formula))
            for _ in range(60):
                cells = {name: draw.choice([None, *range(-1, 7)]) for name in ("a", "b", "c") if draw.random() < 0.9}
                key = draw.randint(-1, 6)
                truth = model.truth_of(formula, key, cells)
                self.assertIs(chosen.truth(key, cells), truth)
                self.assertIs((key, cells) in chosen, truth is True)


class Outcomes(unittest.TestCase):
    def setUp(self):
        self.table = Table.of(Column("a"), Column("b", empty=True), Column("c", large=True, fixed=True))

    def check_outcomes(self, chosen, cells, expected, key=1):
        found = outcomes(chosen, self.table, key, cells)
        self.assertIs(found.__class__, tuple)
        self.assertEqual([repr(truth) for truth in found], [repr(truth) for truth in expected])
        self.assertEqual(outcomes(cells=cells, key=key, table=self.table, chosen=chosen), expected)

    def test_all_is_known(self):
        cells = {"a": 5, "b": None, "c": 1}
        self.check_outcomes(compare("a", "=", 5), cells, (True,))
        self.check_outcomes(compare("a", "<", 5), cells, (False,))
        self.check_outcomes(compare("b", "<", 5), cells, (False,))
        self.check_outcomes(~compare("b", "<", 5), cells, (False,))
        self.check_outcomes(is_empty("b"), cells, (True,))
        self.check_outcomes(Filter.every(), cells, (True,))
        self.check_outcomes(Filter.nothing(), {}, (False,))

    def test_the_key_is_always_known(self):
        self.check_outcomes(compare("key", "=", 5), {}, (True,), key=5)
        self.check_outcomes(compare("key", "=", 5), {}, (False,), key=6)
        self.check_outcomes(~is_empty("key"), {}, (True,), key=10 ** 40 - 1)

    def test_unknown_cells_are_any_integers(self):
        self.check_outcomes(compare("a", "=", 10 ** 29), {}, (True, False))
        self.check_outcomes(compare("a", "<", 5) | compare("a", ">=", 5), {}, (True,))
        self.check_outcomes(compare("a", ">", 3) & compare("a", "<", 4), {"b": 1}, (False,))
        self.check_outcomes(compare("a", ">", 3) & compare("a", "<", 5), {}, (True, False))
        self.check_outcomes(compare("c", "!=", 3), {"a": 3}, (True, False))

    def test_unknown_cells_are_none_only_where_the_column_may_be_empty(self):
        self.check_outcomes(is_empty("a"), {}, (False,))
        self.check_outcomes(is_empty("b"), {}, (True, False))
        self.check_outcomes(compare("b", "<", 5) | compare("b", ">=", 5), {}, (True, False))
        self.check_outcomes(is_empty("b") & compare("b", "<", 5), {}, (False,))

    def test_known_cells_can_be_none_in_any_column(self):
        self.check_outcomes(is_empty("a"), {"a": None}, (True,))
        self.check_outcomes(compare("a", "<", 5) | compare("a", ">=", 5), {"a": None}, (False,))

    def test_names_that_the_table_does_not_have_are_none(self):
        self.check_outcomes(is_empty("d"), {}, (True,))
        self.check_outcomes(compare("d", "=", 1), {}, (False,))
        self.check_outcomes(~compare("d", "=", 1), {}, (False,))
        self.check_outcomes(compare("d", "=", 1) | compare("a", "=", 1), {}, (True, False))

    def test_known_and_unknown_cells_together(self):
        chosen = compare("a", "<", 5) & compare("b", ">", 2)
        self.check_outcomes(chosen, {"a": 5}, (False,))
        self.check_outcomes(chosen, {"a": 4}, (True, False))
        self.check_outcomes(chosen, {"b": 3}, (True, False))
        self.check_outcomes(chosen | compare("key", "=", 1), {}, (True,))
        self.check_outcomes(compare("a", "=", 1) ^ compare("a", "=", 1), {}, (False,))
        self.check_outcomes(~(compare("b", "=", 1) ^ compare("b", "=", 1)), {}, (True, False))

    def test_the_arguments_stay_as_they_were(self):
        cells = {"b": 1}
        outcomes(compare("a", "=", 1) & compare("b", "=", 1), self.table, 1, cells)
        self.assertEqual(cells, {"b": 1})

    def test_sixteen_parts_over_three_unknown_cells(self):
        chosen = Filter.every()
        for at in range(15):
            chosen = chosen & compare(["a", "b", "c"][at % 3], "!=", 10 * at)
        self.check_outcomes(chosen, {}, (True, False))
        self.check_outcomes(chosen, {"a": 0}, (False,))
        self.check_outcomes(chosen | ~chosen, {"b": 0}, (True,))
        self.check_outcomes(chosen | ~chosen, {}, (True, False))

    def test_random_filters_against_the_slow_model(self):
        draw = random.Random(84)
        counts = {}
        for _ in range(1200):
            names = draw.choice([["a"], ["b"], ["a", "b"], ["a", "key"], ["b", "c"], ["a", "d"], ["a", "b", "c"]])
            formula = model.random_formula(draw, names, draw.randint(1, 5), 2)
            cells = {name: draw.choice([None, -1, 0, 1, 2, 3]) for name in ("a", "b", "c") if draw.random() < 0.4}
            key = draw.randint(-1, 3)
            expected = model.possible(formula, self.table, key, cells)
            counts[expected] = counts.get(expected, 0) + 1
            self.assertEqual(outcomes(model.built(formula), self.table, key, cells), expected, f"{formula} {cells}")
        self.assertGreater(min(counts.values()), 50)
        self.assertEqual(len(counts), 3)


if __name__ == "__main__":
    unittest.main()
