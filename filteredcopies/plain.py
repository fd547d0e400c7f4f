"""What the document says of plain values: integers, words and copies of any value."""

LONGEST_WORD = 8


def is_integer(value):
    """Whether any value is an integer; truth values are none."""
    return isinstance(value, int) and not isinstance(value, bool)


def is_word(value):
    """Whether any value is a string of one to eight letters a to z."""
    if not isinstance(value, str) or not 1 <= len(value) <= LONGEST_WORD:
        return False
    return all(["a" <= letter <= "z" for letter in value])


def copied(value):
    """Any value, with all lists, tuples and dicts in it made anew."""
    if isinstance(value, list):
        return [copied(part) for part in value]
    if isinstance(value, tuple):
        return tuple([copied(part) for part in value])
    if isinstance(value, dict):
        return {name: copied(value[name]) for name in value}
    return value


def same(known, value):
    """Whether any value is this one: a truth value, integer, string or None, or a tuple of such.

    Python's own sign alone would take True for 1.
    """
    if isinstance(known, tuple):
        if not isinstance(value, tuple) or len(known) != len(value):
            return False
        return all([same(one, other) for one, other in zip(known, value)])
    return known == value and isinstance(known, bool) == isinstance(value, bool)
