"""Columns, tables, and rows that fit a table or do not."""

import unittest

from filteredcopies.errors import BadColumn, BadRow, BadTable, NoColumn
from filteredcopies.tables import Column, Table
from helpers import ANY_VALUES, INTEGERS, NEITHER, WORDS, check_raises


class Equal:
    """An object of another class that has all attributes of a column, a table and a filter."""

    name, large, fixed, empty = "a", False, False, False
    columns, names = (Column("a"),), ("a",)
    _terms = ()


class Columns(unittest.TestCase):
    def test_words_are_names(self):
        for name in WORDS:
            self.assertEqual(Column(name).name, name)
            self.assertEqual(Column(name=name).name, name)

    def test_other_values_are_no_names(self):
        for value in NEITHER + INTEGERS + ["key"]:
            check_raises(self, BadColumn, {"name": value}, Column, value)
            check_raises(self, BadColumn, {"name": value}, Column, name=value, large=True, empty=True)

    def test_the_error_keeps_the_name_that_was_passed(self):
        name = ["a", {"b": 1}]
        with self.assertRaises(BadColumn) as caught:
            Column(name)
        name[1]["b"] = 2
        name.append("c")
        self.assertEqual(caught.exception.name, ["a", {"b": 1}])

    def test_words_near_to_key_are_names(self):
        for name in ("keys", "ke", "ey", "kez"):
            self.assertEqual(Column(name).name, name)

    def test_flags_are_false_if_they_are_not_passed(self):
        self.assertEqual(vars(Column("a")), {"name": "a", "large": False, "fixed": False, "empty": False})

    def test_flags_in_each_combination(self):
        for at in range(8):
            flags = {"large": bool(at & 1), "fixed": bool(at & 2), "empty": bool(at & 4)}
            column = Column("a", **flags)
            self.assertIs(column.large, flags["large"])
            self.assertIs(column.fixed, flags["fixed"])
            self.assertIs(column.empty, flags["empty"])

    def test_flags_are_passed_by_name_only(self):
        with self.assertRaises(TypeError):
            Column("a", True)

    def test_equal_if_all_four_are(self):
        columns = [
            Column(name, large=bool(at & 1), fixed=bool(at & 2), empty=bool(at & 4))
            for name in ("a", "b") for at in range(8)
        ]
        for place, one in enumerate(columns):
            for other_place, other in enumerate(columns):
                self.assertIs(one == other, place == other_place)
                self.assertIs(one != other, place != other_place)
        self.assertTrue(Column("a", large=True) == Column("a", large=True))

    def test_equal_to_nothing_of_another_class(self):
        for value in ANY_VALUES + [Equal(), Table.of(Column("a")), Column]:
            self.assertFalse(Column("a") == value)
            self.assertTrue(Column("a") != value)


class Tables(unittest.TestCase):
    def test_example_of_the_document(self):
        table = Table.of(Column("amount"), Column("note", large=True, empty=True))
        self.assertEqual(table.names, ("amount", "note"))

    def test_attributes(self):
        columns = [Column("b"), Column("a", fixed=True), Column("c", empty=True)]
        for table in (Table(columns), Table(columns=columns), Table.of(*columns)):
            self.assertIs(table.__class__, Table)
            self.assertEqual(vars(table), {"columns": tuple(columns), "names": ("b", "a", "c")})

    def test_class_values(self):
        self.assertEqual((Table.KEY, Table.MOST), ("key", 3))
        self.assertEqual((Table.of(Column("a")).KEY, Table.of(Column("a")).MOST), ("key", 3))

    def test_none_and_more_than_three_columns(self):
        four = [Column("a"), Column("b"), Column("c"), Column("d")]
        for columns in ([], four, [1, 2, 3, 4], ["a"] * 5, four[:1] * 4):
            check_raises(self, BadTable, {"at": -1}, Table, columns)
            check_raises(self, BadTable, {"at": -1}, Table, columns=columns)
            check_raises(self, BadTable, {"at": -1}, Table.of, *columns)

    def test_each_number_of_columns_up_to_three(self):
        columns = [Column("a"), Column("b"), Column("c")]
        for many in (1, 2, 3):
            self.assertEqual(len(Table(columns[:many])), many)

    def test_entries_that_are_no_columns(self):
        for value in ANY_VALUES + [Equal(), Column, Table.of(Column("a"))]:
            check_raises(self, BadTable, {"at": 0}, Table, [value])
            check_raises(self, BadTable, {"at": 1}, Table, [Column("a"), value, value])
            check_raises(self, BadTable, {"at": 2}, Table.of, Column("a"), Column("b"), value)

    def test_names_that_stand_earlier(self):
        one, other = Column("a"), Column("a", large=True)
        check_raises(self, BadTable, {"at": 1}, Table, [one, one])
        check_raises(self, BadTable, {"at": 1}, Table, [one, other, Column("b")])
        check_raises(self, BadTable, {"at": 2}, Table, [one, Column("b"), other])
        check_raises(self, BadTable, {"at": 2}, Table.of, Column("b"), one, other)

    def test_the_first_wrong_entry_counts(self):
        check_raises(self, BadTable, {"at": 1}, Table, [Column("a"), Column("a"), 5])
        check_raises(self, BadTable, {"at": 1}, Table, [Column("a"), 5, Column("a")])
        check_raises(self, BadTable, {"at": 0}, Table, [None, Column("a"), Column("a")])

    def test_later_changes_to_the_list_have_no_effect(self):
        columns = [Column("a"), Column("b")]
        table = Table(columns)
        columns.pop()
        columns[0] = Column("c")
        self.assertEqual(table.names, ("a", "b"))
        self.assertEqual(table.columns, (Column("a"), Column("b")))
        self.assertEqual(len(table), 2)

    def test_column(self):
        table = Table.of(Column("b", large=True), Column("a"))
        self.assertEqual(table.column("a"), Column("a"))
        self.assertEqual(table.column(name="b"), Column("b", large=True))

    def test_no_column_and_in_for_any_value(self):
        table = Table.of(Column("x"), Column("y"))
        for value in ANY_VALUES:
            check_raises(self, NoColumn, {"name": value}, table.column, value)
            self.assertIs(value in table, False)
            self.assertIs(value not in table, True)

    def test_in(self):
        table = Table.of(Column("x"), Column("y"))
        self.assertIs("x" in table, True)
        self.assertIs("y" in table, True)
        self.assertIs("z" in table, False)
        self.assertIs("key" in table, False)
        self.assertIs(["x"] in table, False)

    def test_equal_columns_in_the_same_order(self):
        a, b = Column("a"), Column("b")
        self.assertTrue(Table.of(a, b) == Table([Column("a"), Column("b")]))
        self.assertFalse(Table.of(a, b) != Table.of(a, b))
        for other in (Table.of(b, a), Table.of(a), Table.of(a, b, Column("c")), Table.of(a, Column("b", empty=True))):
            self.assertFalse(Table.of(a, b) == other)
            self.assertTrue(Table.of(a, b) != other)

    def test_equal_to_nothing_of_another_class(self):
        for value in ANY_VALUES + [Equal(), Column("a"), ("a",), (Column("a"),), [Column("a")]]:
            self.assertFalse(Table.of(Column("a")) == value)


class Rows(unittest.TestCase):
    def setUp(self):
        self.table = Table.of(Column("b"), Column("a", empty=True), Column("c", large=True, fixed=True))

    def test_rows_of_the_table(self):
        for number in INTEGERS:
            self.assertIsNone(self.table.check(number, {"a": number, "b": 0, "c": -number}))
            self.assertIsNone(self.table.check(cells={"c": number, "b": number, "a": None}, key=number))

    def test_key_that_is_no_integer(self):
        for key in NEITHER + WORDS:
            check_raises(self, BadRow, {"part": "key"}, self.table.check, key, {"a": 1, "b": 1, "c": 1})

    def test_key_comes_before_cells(self):
        check_raises(self, BadRow, {"part": "key"}, self.table.check, True, None)
        check_raises(self, BadRow, {"part": "key"}, self.table.check, "key", {"b": None})
        check_raises(self, BadRow, {"part": "key"}, self.table.check, None, {"a": 1, "b": True, "c": 1})

    def test_cells_that_are_no_dict_with_just_the_names(self):
        wrong = [
            {"a": 1, "b": 1}, {"a": 1, "b": 1, "c": 1, "d": 1}, {"a": 1, "b": 1, "d": 1}, {"a": 1, "b": 1, "C": 1},
            {"a": True, "b": None}, {"a": 1, "b": 1, "c": 1, "key": 1}, ["a", "b", "c"], ("b", "a", "c"), "bac",
            [("a", 1), ("b", 1), ("c", 1)],
        ]
        for cells in ANY_VALUES + wrong:
            check_raises(self, BadRow, {"part": None}, self.table.check, 1, cells)

    def test_cells_that_are_no_integers(self):
        for value in NEITHER + WORDS:
            for name in ("a", "b", "c"):
                if value is not None:
                    cells = {"a": 1, "b": 1, "c": 1, name: value}
                    check_raises(self, BadRow, {"part": name}, self.table.check, 1, cells)

    def test_none_only_in_a_column_that_may_be_empty(self):
        check_raises(self, BadRow, {"part": "b"}, self.table.check, 1, {"a": None, "b": None, "c": 1})
        check_raises(self, BadRow, {"part": "c"}, self.table.check, 1, {"a": None, "b": 1, "c": None})

    def test_first_wrong_cell_in_the_order_of_the_columns(self):
        check_raises(self, BadRow, {"part": "b"}, self.table.check, 1, {"a": True, "b": None, "c": "x"})
        check_raises(self, BadRow, {"part": "b"}, self.table.check, 1, {"c": [], "a": [], "b": []})
        check_raises(self, BadRow, {"part": "a"}, self.table.check, 1, {"c": None, "a": False, "b": 1})

    def test_the_arguments_stay_as_they_were(self):
        cells = {"c": 1, "a": None, "b": 1}
        self.table.check(1, cells)
        self.assertEqual(list(cells.items()), [("c", 1), ("a", None), ("b", 1)])


if __name__ == "__main__":
    unittest.main()
