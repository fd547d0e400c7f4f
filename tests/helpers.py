"""What several tests use: values of every kind, and a check of an error with its fields."""

import contextlib
import time

from filteredcopies.filters import compare
from filteredcopies.networks import Feed, Network, Target
from filteredcopies.tables import Column, Table

# Values that a caller may pass where the document says "any value", none of which is a word or an integer.
NEITHER = [
    True, False, None, "", "A", "Ab", "Z", "a`", "{", "a1", "a b", "a_b", " a", "a\n", "\u00e4", "\uff41", "abcdefghi", "a" * 1000,
    [], [1, "a"], ["a"], (), ("a",), (1, None, ("a", [2])), {}, {"a": 1}, {"a": {"b": [True, None]}},
]
WORDS = ["a", "z", "amount", "abcdefgh", "zzzzzzzz", "note"]
INTEGERS = [0, 1, -1, 7, 10 ** 29, -(10 ** 30) + 1, 10 ** 40 - 1, -(10 ** 40) + 1]


def nested(depth):
    """A value with lists, tuples and dicts in each other."""
    value = "a"
    for at in range(depth):
        value = ([value], (value, 1), {"x": value})[at % 3]
    return value


ANY_VALUES = NEITHER + WORDS + INTEGERS + ["key", nested(8), 10 ** 60]


def fields_of(error):
    """The fields of an error of the package."""
    return vars(error)


def check_raises(case, error, fields, call, *args, **named):
    """Check that the call raises just this class of error, with just these fields (also their kinds)."""
    try:
        result = call(*args, **named)
    except Exception as raised:
        case.assertIs(raised.__class__, error, f"{raised!r} for {args} {named}")
        case.assertEqual(repr(fields_of(raised)), repr(fields))
        return
    case.fail(f"returned {result!r} for {args} {named}, and did not raise {error.__name__}{fields}")


def the_example():
    """The network of the examples of the document."""
    table = Table.of(Column("amount"), Column("note", large=True, empty=True))
    feed = Feed("table", "big", where=compare("amount", ">=", 5))
    return Network(table, [Target("big", ["amount"])], [feed])


@contextlib.contextmanager
def check_time(case, seconds):
    """Check that what stands in the block takes at most so many seconds."""
    start = time.monotonic()
    yield
    case.assertLess(time.monotonic() - start, seconds)
