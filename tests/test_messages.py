"""Messages: what they bear, and which are equal."""

import unittest

from filteredcopies import messages
from filteredcopies.copies import Copy, Habits
from filteredcopies.messages import Change, Message, Put, Take
from filteredcopies.tables import Column
from helpers import ANY_VALUES, INTEGERS


class Alike:
    """An object of another class that has all attributes of a put, a change and a take."""

    key, cells, deed = 1, {"a": 5}, "put"
    _cells = {"a": 5}


class Bases(unittest.TestCase):
    def test_each_is_directly_under_message(self):
        for found in (Put, Change, Take):
            self.assertEqual(found.__bases__, (Message,))
            self.assertEqual(found.__module__, "filteredcopies.messages")
        self.assertEqual(Message.__module__, messages.__name__)

    def test_deed_is_a_class_value(self):
        self.assertEqual((Put.deed, Change.deed, Take.deed), ("put", "change", "take"))
        self.assertEqual((Put(1, {}).deed, Change(1, {}).deed, Take(1).deed), ("put", "change", "take"))


class Borne(unittest.TestCase):
    def test_key_and_cells(self):
        for key in INTEGERS:
            for found in (Put, Change):
                for cells in ({}, {"a": key}, {"a": None, "b": 1}):
                    message = found(key, cells)
                    self.assertEqual((message.key, message.cells), (key, cells))
                    message = found(cells=cells, key=key)
                    self.assertEqual((message.key, message.cells), (key, cells))
            self.assertEqual((Take(key).key, Take(key).cells), (key, {}))
            self.assertEqual((Take(key=key).key, Take(key=key).cells), (key, {}))

    def test_a_take_is_made_of_a_key_only(self):
        with self.assertRaises(TypeError):
            Take(1, {})

    def test_later_changes_to_the_cells_have_no_effect(self):
        for found in (Put, Change):
            cells = {"a": 1}
            message = found(3, cells)
            cells["a"] = 2
            cells["b"] = 3
            self.assertEqual(message.cells, {"a": 1})
            self.assertTrue(message == found(3, {"a": 1}))

    def test_cells_are_new_each_time(self):
        for message, kept in ((Put(3, {"a": 1}), {"a": 1}), (Change(3, {"a": 1}), {"a": 1}), (Take(3), {})):
            cells = message.cells
            self.assertIs(cells.__class__, dict)
            cells["a"] = 2
            cells["b"] = 3
            self.assertEqual(message.cells, kept)
            self.assertIsNot(message.cells, message.cells)

    def test_cells_is_a_property_of_each_class(self):
        for found in (Put, Change, Take):
            self.assertIsInstance(vars(found)["cells"], property)


class Equal(unittest.TestCase):
    def test_same_class_key_and_cells(self):
        made = [
            lambda: Put(1, {}), lambda: Put(1, {"a": 5}), lambda: Put(1, {"a": 6}), lambda: Put(1, {"a": None}),
            lambda: Put(1, {"b": 5}), lambda: Put(1, {"a": 5, "b": 5}), lambda: Put(2, {"a": 5}), lambda: Put(2, {}),
            lambda: Change(1, {}), lambda: Change(1, {"a": 5}), lambda: Change(1, {"a": 6}),
            lambda: Change(1, {"b": 5}), lambda: Change(2, {"a": 5}), lambda: Take(1), lambda: Take(2),
        ]
        for place, one in enumerate(made):
            for other_place, other in enumerate(made):
                self.assertIs(one() == other(), place == other_place)
                self.assertIs(one() != other(), place != other_place)

    def test_the_order_of_the_cells_has_no_meaning(self):
        for found in (Put, Change):
            self.assertIs(found(1, {"a": 1, "b": 2}) == found(1, {"b": 2, "a": 1}), True)

    def test_equal_to_nothing_of_another_class(self):
        others = ANY_VALUES + [Alike(), Message(), Column("a"), Habits(), Copy(["a"], Habits()), Put, "put", {"a": 5}]
        for value in others:
            for message in (Put(1, {"a": 5}), Change(1, {"a": 5}), Take(1)):
                self.assertFalse(message == value)
                self.assertFalse(value == message)
                self.assertTrue(message != value)


if __name__ == "__main__":
    unittest.main()
