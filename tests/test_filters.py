"""Comparisons, tests, their truth, what is put together of them, and wrong arguments."""

import unittest

from filteredcopies.errors import BadFilter
from filteredcopies.filters import Filter, compare, is_empty
from helpers import ANY_VALUES, INTEGERS, NEITHER, WORDS, check_raises

SIGNS = ["=", "!=", "<", "<=", ">", ">="]

# A filter for each truth where the cell a is 1 and the cell b is None.
ENTRY = (1, {"a": 1, "b": None})
OF_TRUTH = {True: compare("a", "=", 1), False: compare("a", "=", 2), None: compare("b", "=", 1)}
TRUTHS = [True, False, None]


class Made(unittest.TestCase):
    def test_words_and_key_are_names(self):
        for name in WORDS + ["key"]:
            self.assertEqual(compare(name, "=", 1).mentions(), [name])
            self.assertEqual(is_empty(name).mentions(), [name])
            self.assertEqual(is_empty(name=name).mentions(), [name])

    def test_names_that_are_no_words(self):
        for value in NEITHER + INTEGERS:
            check_raises(self, BadFilter, {"part": "name"}, compare, value, "=", 1)
            check_raises(self, BadFilter, {"part": "name"}, is_empty, value)

    def test_signs_that_are_none_of_the_six(self):
        wrong = ["==", "<>", "=<", "=>", " =", "= ", "!", "<<", "is", "empty", "every", "nothing", "~", "&", "|", "^"]
        for value in ANY_VALUES + wrong + [["="], ("=",), {"=": 1}]:
            check_raises(self, BadFilter, {"part": "sign"}, compare, "a", value, 1)

    def test_numbers_that_are_no_integers(self):
        for value in NEITHER + WORDS + ["1"]:
            for sign in SIGNS:
                check_raises(self, BadFilter, {"part": "number"}, compare, "a", sign, value)

    def test_the_first_wrong_argument_counts(self):
        for value in ANY_VALUES:
            check_raises(self, BadFilter, {"part": "name"}, compare, None, value, value)
            check_raises(self, BadFilter, {"part": "sign"}, compare, "a", "==", value)
        check_raises(self, BadFilter, {"part": "name"}, compare, number=None, sign=None, name=3)
        check_raises(self, BadFilter, {"part": "sign"}, compare, number=True, sign=[], name="key")

    def test_arguments_by_name(self):
        chosen = compare(number=5, sign=">=", name="a")
        self.assertIs(chosen.truth(1, {"a": 5}), True)
        self.assertIs(chosen.truth(1, {"a": 4}), False)

    def test_all_are_filters(self):
        f, g = compare("a", "=", 1), is_empty("a")
        for made in (f, g, Filter.every(), Filter.nothing(), ~f, f & g, f | g, f - g, f ^ g):
            self.assertIs(made.__class__, Filter)


class Truth(unittest.TestCase):
    def check_truth(self, chosen, key, cells, truth):
        self.assertIs(chosen.truth(key, cells), truth)
        self.assertIs(chosen.truth(cells=cells, key=key), truth)
        self.assertIs((key, cells) in chosen, truth is True)
        self.assertIs((key, cells) not in chosen, truth is not True)

    def test_example_of_the_document(self):
        self.assertIsNone(compare("amount", ">=", 5).truth(1, {"amount": None}))

    def test_comparisons_of_a_cell_and_of_the_key(self):
        below, at, above = (4, 5, 6)
        accepted = {
            "=": [at], "!=": [below, above], "<": [below], "<=": [below, at], ">": [above], ">=": [at, above],
        }
        for sign, cells in accepted.items():
            for cell in (below, at, above):
                self.check_truth(compare("a", sign, 5), 5, {"a": cell}, cell in cells)
                self.check_truth(compare("key", sign, 5), cell, {"a": 5}, cell in cells)

    def test_numbers_of_many_digits(self):
        for number in (10 ** 30 - 1, -(10 ** 30) + 1, 10 ** 29):
            for cell, place in ((number - 1, -1), (number, 0), (number + 1, 1), (10 ** 40 - 1, 1), (1 - 10 ** 40, -1)):
                self.check_truth(compare("a", "<", number), 1, {"a": cell}, place < 0)
                self.check_truth(compare("a", "=", number), 1, {"a": cell}, place == 0)
                self.check_truth(compare("key", ">", number), cell, {}, place > 0)

    def test_a_comparison_of_none_is_unknown(self):
        for sign in SIGNS:
            for cells in ({"a": None}, {}, {"b": 5}, {"b": None, "aa": 5}):
                self.check_truth(compare("a", sign, 5), 5, cells, None)

    def test_a_test_for_emptiness_is_never_unknown(self):
        self.check_truth(is_empty("a"), 1, {"a": None}, True)
        self.check_truth(is_empty("a"), 1, {}, True)
        self.check_truth(is_empty("a"), 1, {"b": 1}, True)
        self.check_truth(is_empty("a"), 1, {"a": 0}, False)
        self.check_truth(is_empty("a"), 1, {"a": 10 ** 40 - 1, "b": None}, False)

    def test_a_key_is_never_empty(self):
        self.check_truth(is_empty("key"), 0, {}, False)
        self.check_truth(~is_empty("key"), 0, {"a": None}, True)

    def test_every_and_nothing(self):
        for cells in ({}, {"a": None}, {"a": 3}):
            self.check_truth(Filter.every(), 0, cells, True)
            self.check_truth(Filter.nothing(), 0, cells, False)
            self.check_truth(~Filter.every(), 0, cells, False)
            self.check_truth(~Filter.nothing(), 0, cells, True)

    def test_not(self):
        for truth, result in ((True, False), (False, True), (None, None)):
            self.check_truth(~OF_TRUTH[truth], *ENTRY, result)

    def test_what_is_put_together_of_two(self):
        for one in TRUTHS:
            for other in TRUTHS:
                f, g = OF_TRUTH[one], OF_TRUTH[other]
                unknown = one is None or other is None
                both = False if one is False or other is False else None if unknown else True
                either = True if one is True or other is True else None if unknown else False
                less = False if one is False or other is True else None if unknown else True
                differ = None if unknown else one != other
                self.check_truth(f & g, *ENTRY, both)
                self.check_truth(f | g, *ENTRY, either)
                self.check_truth(f - g, *ENTRY, less)
                self.check_truth(f ^ g, *ENTRY, differ)

    def test_an_entry_with_an_empty_cell_can_be_in_neither(self):
        chosen = compare("a", "<", 5)
        self.assertNotIn((1, {"a": None}), chosen)
        self.assertNotIn((1, {"a": None}), ~chosen)

    def test_unknown_parts_that_do_not_matter(self):
        unknown = compare("b", ">", 0)
        self.check_truth(unknown & Filter.nothing(), *ENTRY, False)
        self.check_truth(Filter.every() | unknown, *ENTRY, True)
        self.check_truth(unknown ^ Filter.every(), *ENTRY, None)
        self.check_truth(unknown | ~unknown, *ENTRY, None)
        self.check_truth(unknown & ~unknown, *ENTRY, None)
        self.check_truth(unknown ^ unknown, *ENTRY, None)

    def test_equal_filters_can_have_different_truths(self):
        one = compare("a", "=", 5)
        other = compare("a", "=", 5) & ~is_empty("a")
        self.assertTrue(one == other)
        self.check_truth(~one, 1, {"a": None}, None)
        self.check_truth(~other, 1, {"a": None}, True)

    def test_the_arguments_stay_as_they_were(self):
        cells = {"b": 1, "a": None}
        (compare("key", "=", 1) & compare("c", "=", 1) | is_empty("a")).truth(1, cells)
        self.assertEqual(list(cells.items()), [("b", 1), ("a", None)])


class Mentioned(unittest.TestCase):
    def test_mentions_ascending_each_once(self):
        chosen = compare("b", "=", 1) & is_empty("c") | compare("a", "<", 2) - compare("key", ">", 3) ^ is_empty("b")
        self.assertEqual(chosen.mentions(), ["a", "b", "c", "key"])
        self.assertEqual(Filter.every().mentions(), [])
        self.assertEqual(Filter.nothing().mentions(), [])

    def test_numbers_ascending_each_once(self):
        chosen = compare("a", "=", 7) & ~compare("a", "<", -3) | compare("a", "!=", 7) ^ compare("b", ">", 5)
        chosen = chosen - compare("a", ">=", 10 ** 29) & compare("key", "<=", 0) | is_empty("c")
        self.assertEqual(chosen.numbers("a"), [-3, 7, 10 ** 29])
        self.assertEqual(chosen.numbers(name="b"), [5])
        self.assertEqual(chosen.numbers("key"), [0])
        self.assertEqual(chosen.numbers("c"), [])
        self.assertEqual(chosen.numbers("d"), [])

    def test_all_parts_are_kept_where_they_no_longer_matter(self):
        a, b = compare("a", "=", 1), compare("b", "<", 2) | is_empty("c")
        for chosen in (a & ~a & b, a | ~a | b, b & Filter.nothing() & a, Filter.every() | b | a, (a ^ a) & b, b - b - a):
            self.assertEqual(chosen.mentions(), ["a", "b", "c"])
            self.assertEqual((chosen.numbers("a"), chosen.numbers("b")), ([1], [2]))

    def test_the_lists_are_new_each_time(self):
        chosen = compare("a", "=", 1)
        chosen.mentions().append("b")
        chosen.numbers("a").append(2)
        self.assertEqual(chosen.mentions(), ["a"])
        self.assertEqual(chosen.numbers("a"), [1])
        self.assertTrue(chosen == compare("a", "=", 1))


class Values(unittest.TestCase):
    def test_what_is_made_of_filters_leaves_them_as_they_were(self):
        f, g = compare("a", "=", 1), compare("b", "<", 2)
        kept = f
        made = [~f, f & g, f | g, f - g, f ^ g, g & f, g | f, g - f, g ^ f, f & f]
        f &= g
        f |= g
        f ^= g
        f -= g
        self.assertEqual(len(made), 10)
        self.assertEqual((kept.mentions(), g.mentions()), (["a"], ["b"]))
        self.assertEqual((kept.numbers("a"), g.numbers("b")), ([1], [2]))
        self.assertEqual([kept.truth(0, {"a": cell}) for cell in (1, 2, None)], [True, False, None])
        self.assertEqual([g.truth(0, {"b": cell}) for cell in (1, 2, None)], [True, False, None])
        self.assertEqual(f.mentions(), ["a", "b"])


if __name__ == "__main__":
    unittest.main()
