"""Habits, and copies that apply messages by them."""

import itertools
import random
import unittest

from copy_model import ModelCopy
from filteredcopies.copies import Copy, Habits
from filteredcopies.errors import BadHabit, NoRow, Refused
from filteredcopies.messages import Change, Put, Take
from filteredcopies.tables import Column
from helpers import ANY_VALUES, INTEGERS, check_raises

VALUES = {
    "present": ["stop", "keep", "replace", "merge"], "lacking": ["stop", "skip", "make"], "gone": ["stop", "skip"],
    "shared": ["one", "all"],
}
DEFAULTS = {"present": "stop", "lacking": "stop", "gone": "stop", "shared": "one"}


def all_habits():
    """Each choice of the four habits, as dicts."""
    return [dict(zip(VALUES, choice)) for choice in itertools.product(*VALUES.values())]


def told(habits):
    return {"present": habits.present, "lacking": habits.lacking, "gone": habits.gone, "shared": habits.shared}


class Alike:
    """An object of another class that has all attributes of habits."""

    present, lacking, gone, shared = "stop", "stop", "stop", "one"

    def named(self):
        return dict(DEFAULTS)


class HabitsMade(unittest.TestCase):
    def test_defaults(self):
        self.assertEqual(told(Habits()), DEFAULTS)

    def test_each_choice(self):
        for choice in all_habits():
            self.assertEqual(told(Habits(**choice)), choice)

    def test_one_habit_passed(self):
        for habit, values in VALUES.items():
            for value in values:
                self.assertEqual(told(Habits(**{habit: value})), {**DEFAULTS, habit: value})

    def test_they_are_passed_by_name_only(self):
        with self.assertRaises(TypeError):
            Habits("keep")

    def test_example_of_the_document(self):
        with self.assertRaises(BadHabit) as caught:
            Habits(gone="keep", present="none")
        self.assertEqual(caught.exception.habit, "present")

    def test_values_that_a_habit_does_not_have(self):
        values = ANY_VALUES + sorted({value for values in VALUES.values() for value in values}) + ["Stop", "stop "]
        for habit in VALUES:
            for value in values:
                if not isinstance(value, str) or value not in VALUES[habit]:
                    check_raises(self, BadHabit, {"habit": habit}, Habits, **{habit: value})
                    check_raises(self, BadHabit, {"habit": habit}, Habits().turned, **{habit: value})

    def test_the_first_wrong_habit_in_the_order_of_the_document(self):
        for many in range(1, 5):
            for wrong in itertools.combinations(VALUES, many):
                for value in (None, "none", [], {"stop": 1}):
                    habits = {habit: value for habit in reversed(wrong)}
                    check_raises(self, BadHabit, {"habit": wrong[0]}, Habits, **habits)
                    check_raises(self, BadHabit, {"habit": wrong[0]}, Habits(gone="skip").turned, **habits)


class HabitsTurned(unittest.TestCase):
    def test_turned(self):
        for choice in all_habits():
            habits = Habits(**choice)
            for other in all_habits():
                self.assertEqual(told(habits.turned(**other)), other)
            for habit, values in VALUES.items():
                for value in values:
                    self.assertEqual(told(habits.turned(**{habit: value})), {**choice, habit: value})
            self.assertEqual(told(habits.turned()), choice)
            self.assertEqual(told(habits), choice)

    def test_equal_if_all_four_are(self):
        for choice in all_habits():
            for other in all_habits():
                self.assertIs(Habits(**choice) == Habits(**other), choice == other)
                self.assertIs(Habits(**choice) != Habits(**other), choice != other)

    def test_equal_to_nothing_of_another_class(self):
        for value in ANY_VALUES + [Alike(), DEFAULTS, Column("a"), Copy(["a"], Habits()), Habits]:
            self.assertFalse(Habits() == value)
            self.assertFalse(value == Habits())
            self.assertTrue(Habits() != value)


class Copies(unittest.TestCase):
    def made(self, rows=(), columns=("a", "b"), **habits):
        """A copy with some rows (key, cells, feeds)."""
        copy = Copy(columns, Habits(**habits))
        for key, cells, feeds in rows:
            copy.apply(Put(key, cells), feed=feeds[0])
            for feed in feeds[1:]:
                copy.apply(Change(key, {}), feed=feed)
        return copy

    def check_rows(self, copy, rows):
        """Check all that a copy shows: rows is a list of (key, cells, holders), keys ascending."""
        keys = [key for key, _, _ in rows]
        self.assertEqual(list(copy), keys)
        self.assertEqual(len(copy), len(rows))
        self.assertEqual(list(copy.rows()), keys)
        self.assertEqual(copy.rows(), {key: cells for key, cells, _ in rows})
        for key, cells, holders in rows:
            self.assertEqual(copy[key], cells)
            self.assertIs(key in copy, True)
            self.assertIs(copy.holders(key).__class__, tuple)
            self.assertEqual(copy.holders(key), holders)
            self.assertEqual(copy.holders(key=key), holders)
        for key in set(range(-2, 9)).difference(keys):
            check_raises(self, NoRow, {"key": key}, lambda: copy[key])
            self.assertIs(key in copy, False)
            self.assertEqual(copy.holders(key), ())

    def check_refused(self, copy, message, row, feed=0):
        check_raises(self, Refused, {"message": message, "row": row}, copy.apply, message, feed=feed)

    def test_example_of_the_document(self):
        copy = Copy(["a"], Habits(present="keep", shared="all"))
        self.assertIsNone(copy.apply(Put(3, {"a": 5}), feed=1))
        self.assertIsNone(copy.apply(Put(3, {"a": 6})))
        self.assertIsNone(copy.apply(Take(3), feed=1))
        self.assertEqual([copy[3], copy.holders(3)], [{"a": 5}, (0,)])

    def test_an_empty_copy(self):
        habits = Habits(gone="skip")
        for columns in (["b", "a"], ("b", "a"), [], ()):
            for copy in (Copy(columns, habits), Copy(habits=habits, columns=columns)):
                self.assertEqual(copy.columns, tuple(columns))
                self.assertIs(copy.columns.__class__, tuple)
                self.assertTrue(copy.habits == habits)
                self.check_rows(copy, [])

    def test_later_changes_to_the_columns_have_no_effect(self):
        columns = ["a"]
        copy = Copy(columns, Habits())
        columns.append("b")
        copy.apply(Put(1, {"a": 1}))
        self.assertEqual(copy.columns, ("a",))
        self.assertEqual(copy[1], {"a": 1})

    def test_arguments_by_name_and_the_feed_by_name_only(self):
        copy = Copy(["a"], Habits())
        copy.apply(feed=3, message=Put(1, {"a": 1}))
        self.check_rows(copy, [(1, {"a": 1}, (3,))])
        with self.assertRaises(TypeError):
            copy.apply(Put(2, {"a": 1}), 3)

    def test_a_put_where_no_row_is(self):
        for choice in all_habits():
            copy = self.made(**choice)
            copy.apply(Put(1, {"a": 5, "b": None}))
            copy.apply(Put(2, {"b": 6}), feed=2)
            copy.apply(Put(0, {}), feed=1)
            self.check_rows(copy, [
                (0, {"a": None, "b": None}, (1,)), (1, {"a": 5, "b": None}, (0,)), (2, {"a": None, "b": 6}, (2,)),
            ])

    def test_a_put_where_a_row_is_stop(self):
        copy = self.made([(1, {"a": 5}, [0])])
        for feed in (0, 1):
            self.check_refused(copy, Put(1, {"b": 7}), {"a": 5, "b": None}, feed=feed)
            self.check_refused(copy, Put(1, {"a": 5, "b": None}), {"a": 5, "b": None}, feed=feed)
        self.check_rows(copy, [(1, {"a": 5, "b": None}, (0,))])

    def test_a_put_where_a_row_is_keep(self):
        copy = self.made([(1, {"a": 5}, [1])], present="keep")
        copy.apply(Put(1, {"a": 6, "b": 7}), feed=0)
        self.check_rows(copy, [(1, {"a": 5, "b": None}, (0, 1))])
        copy.apply(Put(1, {"a": 6}), feed=1)
        self.check_rows(copy, [(1, {"a": 5, "b": None}, (0, 1))])

    def test_a_put_where_a_row_is_replace(self):
        copy = self.made([(1, {"a": 5, "b": 6}, [2, 1])], present="replace")
        copy.apply(Put(1, {"b": 7}), feed=0)
        self.check_rows(copy, [(1, {"a": None, "b": 7}, (0, 1, 2))])
        copy.apply(Put(1, {}), feed=1)
        self.check_rows(copy, [(1, {"a": None, "b": None}, (0, 1, 2))])

    def test_a_put_where_a_row_is_merge(self):
        copy = self.made([(1, {"a": 5, "b": 6}, [2])], present="merge")
        copy.apply(Put(1, {"b": None}), feed=0)
        self.check_rows(copy, [(1, {"a": 5, "b": None}, (0, 2))])
        copy.apply(Put(1, {"a": 7}), feed=3)
        self.check_rows(copy, [(1, {"a": 7, "b": None}, (0, 2, 3))])

    def test_a_change_where_a_row_is(self):
        for choice in all_habits():
            copy = Copy(["a", "b"], Habits(**choice))
            copy.apply(Put(1, {"a": 5, "b": 6}), feed=4)
            copy.apply(Change(1, {"a": None}), feed=4)
            self.check_rows(copy, [(1, {"a": None, "b": 6}, (4,))])
            copy.apply(Change(1, {"b": 7}), feed=0)
            self.check_rows(copy, [(1, {"a": None, "b": 7}, (0, 4))])
            copy.apply(Change(1, {}), feed=2)
            self.check_rows(copy, [(1, {"a": None, "b": 7}, (0, 2, 4))])

    def test_a_change_where_no_row_is(self):
        kept = (1, {"a": 5, "b": None}, (0,))
        copy = self.made([(1, {"a": 5}, [0])], lacking="stop")
        self.check_refused(copy, Change(2, {"a": 5}), None)
        self.check_rows(copy, [kept])
        copy = self.made([(1, {"a": 5}, [0])], lacking="skip")
        copy.apply(Change(2, {"a": 5}), feed=1)
        self.check_rows(copy, [kept])
        copy = self.made([(1, {"a": 5}, [0])], lacking="make")
        copy.apply(Change(2, {"b": 6}), feed=1)
        copy.apply(Change(3, {}))
        self.check_rows(copy, [kept, (2, {"a": None, "b": 6}, (1,)), (3, {"a": None, "b": None}, (0,))])

    def test_a_take_where_no_row_is(self):
        for shared in VALUES["shared"]:
            kept = (1, {"a": 5, "b": None}, (0,))
            copy = self.made([(1, {"a": 5}, [0])], gone="stop", shared=shared)
            self.check_refused(copy, Take(2), None, feed=1)
            self.check_rows(copy, [kept])
            copy = self.made([(1, {"a": 5}, [0])], gone="skip", shared=shared)
            copy.apply(Take(2), feed=1)
            self.check_rows(copy, [kept])

    def test_a_take_where_a_row_is_one(self):
        for feed in (0, 1, 2, 5):
            copy = self.made([(1, {"a": 5}, [0, 2, 1]), (2, {}, [feed])], shared="one")
            copy.apply(Take(1), feed=feed)
            self.check_rows(copy, [(2, {"a": None, "b": None}, (feed,))])
            copy.apply(Put(1, {}), feed=3)
            self.assertEqual(copy.holders(1), (3,))

    def test_a_take_where_a_row_is_all(self):
        row = {"a": 5, "b": 6}
        copy = self.made([(1, row, [0, 2, 1])], shared="all")
        copy.apply(Take(1), feed=3)
        self.check_rows(copy, [(1, row, (0, 1, 2))])
        copy.apply(Take(1), feed=1)
        self.check_rows(copy, [(1, row, (0, 2))])
        copy.apply(Take(1), feed=1)
        self.check_rows(copy, [(1, row, (0, 2))])
        copy.apply(Take(1))
        self.check_rows(copy, [(1, row, (2,))])
        copy.apply(Take(1), feed=2)
        self.check_rows(copy, [])
        self.check_refused(copy, Take(1), None, feed=2)

    def test_holders_ascending_each_once(self):
        copy = self.made([(1, {"a": 5}, [16, 8, 1, 33, 8, 16])], shared="all")
        self.assertEqual(copy.holders(1), (1, 8, 16, 33))
        copy.apply(Take(1), feed=8)
        self.assertEqual(copy.holders(1), (1, 16, 33))

    def test_no_holder_behind_a_message_that_is_skipped_or_refused(self):
        copy = self.made(present="stop", lacking="skip", gone="skip", shared="all")
        copy.apply(Change(1, {"a": 1}), feed=1)
        copy.apply(Put(1, {"a": 1}), feed=0)
        self.assertEqual(copy.holders(1), (0,))
        self.check_refused(copy, Put(1, {"a": 2}), {"a": 1, "b": None}, feed=2)
        self.assertEqual(copy.holders(1), (0,))
        copy.apply(Take(1), feed=0)
        self.check_rows(copy, [])

    def test_each_message_at_each_row_with_each_habits(self):
        befores = [None, (0,), (1,), (0, 1)]
        messages = [("put", {}), ("put", {"a": 7}), ("put", {"a": 7, "b": 8}), ("change", {}), ("change", {"b": None}),
                    ("change", {"a": 7, "b": 8}), ("take", {})]
        for choice in all_habits():
            for before, (deed, cells), feed in itertools.product(befores, messages, (0, 1, 2)):
                copy, model = Copy(["a", "b"], Habits(**choice)), ModelCopy(["a", "b"], **choice)
                for holder in before or []:
                    first = "put" if holder == before[0] else "change"
                    self.send(copy, model, first, 1, {"a": 5, "b": 6}, holder)
                self.send(copy, model, deed, 1, cells, feed)

    def test_random_messages_against_the_model(self):
        draw = random.Random(101)
        for choice in all_habits() * 2:
            copy, model = Copy(["b", "a"], Habits(**choice)), ModelCopy(["b", "a"], **choice)
            for _ in range(60):
                cells = {name: draw.choice([None, 0, 1, 10 ** 39]) for name in "ab" if draw.random() < 0.6}
                deed = draw.choice(["put", "put", "change", "take"])
                self.send(copy, model, deed, draw.choice([-10 ** 39, -1, 0, 1, 2]), cells, draw.randint(0, 3))

    def send(self, copy, model, deed, key, cells, feed):
        """Send one message to both, and compare all that they show behind it."""
        message = {"put": Put, "change": Change}[deed](key, cells) if deed != "take" else Take(key)
        row = copy[key] if key in copy else None
        if model.apply(deed, key, cells, feed):
            self.assertIsNone(copy.apply(message, feed=feed))
        else:
            self.check_refused(copy, message, row, feed=feed)
        self.check_rows(copy, model.shown())

    def test_the_row_of_a_refused_message_is_a_copy(self):
        copy = self.made([(1, {"a": 5}, [0])])
        with self.assertRaises(Refused) as caught:
            copy.apply(Put(1, {}))
        caught.exception.row["a"] = 6
        self.assertEqual(copy[1], {"a": 5, "b": None})

    def test_what_is_returned_is_new_each_time(self):
        copy = self.made([(1, {"a": 5}, [0]), (2, {"a": 6}, [0])])
        copy[1]["a"] = 7
        copy.rows()[1]["a"] = 7
        rows = copy.rows()
        rows[3] = rows.pop(1)
        self.check_rows(copy, [(1, {"a": 5, "b": None}, (0,)), (2, {"a": 6, "b": None}, (0,))])

    def test_a_message_and_its_cells_stay_as_they_were(self):
        cells = {"a": 5}
        message = Put(1, cells)
        copy = self.made(present="merge")
        copy.apply(message)
        copy.apply(Change(1, {"a": 6, "b": 7}))
        self.assertEqual((cells, message.cells), ({"a": 5}, {"a": 5}))
        copy.apply(message)
        self.check_rows(copy, [(1, {"a": 5, "b": 7}, (0,))])

    def test_keys_ascending(self):
        copy = Copy([], Habits())
        for key in (5, -3, 10 ** 39, 0, -10 ** 39, 7):
            copy.apply(Put(key, {}))
        self.assertEqual(list(copy), [-10 ** 39, -3, 0, 5, 7, 10 ** 39])
        copy.apply(Take(5))
        copy.apply(Take(-10 ** 39))
        copy.apply(Put(-4, {}))
        self.assertEqual(list(copy), [-4, -3, 0, 7, 10 ** 39])
        self.assertEqual(list(copy.rows()), [-4, -3, 0, 7, 10 ** 39])

    def test_a_copy_can_change_while_its_keys_are_gone_through(self):
        copy = self.made([(key, {}, [0]) for key in (3, 1, 2)])
        seen = []
        for key in copy:
            seen.append(key)
            copy.apply(Take(key))
            copy.apply(Put(key + 10, {}))
        self.assertEqual((seen, list(copy)), ([1, 2, 3], [11, 12, 13]))

    def test_two_copies_share_nothing(self):
        habits = Habits()
        one, other = Copy(["a"], habits), Copy(["a"], habits)
        one.apply(Put(1, {"a": 1}))
        self.check_rows(other, [])
        other.apply(Put(1, {"a": 2}), feed=1)
        self.check_rows(one, [(1, {"a": 1}, (0,))])

    def test_no_row_for_each_integer(self):
        copy = Copy(["a"], Habits())
        for key in INTEGERS:
            check_raises(self, NoRow, {"key": key}, lambda: copy[key])


if __name__ == "__main__":
    unittest.main()
