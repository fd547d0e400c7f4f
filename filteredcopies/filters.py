"""Filters: conditions on the key and the cells of an entry, which are True, False or unknown."""

from filteredcopies.errors import BadFilter
from filteredcopies.grids import cells_between, slices, spread
from filteredcopies.plain import is_integer, is_word
from filteredcopies.tables import Table
from filteredcopies.terms import AND, EMPTY, EVERY, NOT, NOTHING, OR, SIGNS, XOR, weigh


def compare(name, sign, number):
    """The filter that compares the key or a cell with a number."""
    if not is_word(name):
        raise BadFilter("name")
    if not isinstance(sign, str) or sign not in SIGNS:
        raise BadFilter("sign")
    if not is_integer(number):
        raise BadFilter("number")
    return Filter([(sign, name, number)])


def is_empty(name):
    """The filter that tests whether a cell is None."""
    if not is_word(name):
        raise BadFilter("name")
    return Filter([(EMPTY, name, None)])


class Filter:
    """A condition on entries. It is made by compare, is_empty, every and nothing, and by ~ & | - ^."""

    def __init__(self, terms):
        self._terms = tuple(terms)

    @staticmethod
    def every():
        """The filter that is always True."""
        return Filter([(EVERY, None, None)])

    @staticmethod
    def nothing():
        """The filter that is always False."""
        return Filter([(NOTHING, None, None)])

    def __invert__(self):
        return Filter([*self._terms, (NOT, None, None)])

    def __and__(self, other):
        return Filter([*self._terms, *other._terms, (AND, None, None)])

    def __or__(self, other):
        return Filter([*self._terms, *other._terms, (OR, None, None)])

    def __sub__(self, other):
        return self & ~other

    def __xor__(self, other):
        return Filter([*self._terms, *other._terms, (XOR, None, None)])

    def truth(self, key, cells):
        """True, False or None for an entry."""
        grid = {name: [(cells.get(name), 1)] for name in self.mentions()}
        grid[Table.KEY] = [(key, 1)]
        yes, no = self.masks(grid, 1)
        if yes == no:
            return None
        return yes == 1

    def masks(self, grid, full):
        """The entries of a grid for which this filter is True, and those for which it is False."""
        return weigh(self._terms, grid, full)

    def __contains__(self, x):
        key, cells = x
        return self.truth(key, cells) is True

    def __eq__(self, other):
        return isinstance(other, Filter) and _same_entries(self, other)

    def mentions(self):
        """The names in comparisons and tests, ascending."""
        return sorted({name for _, name, _ in self._terms if name is not None})

    def numbers(self, name):
        """The numbers with which comparisons compare the name, ascending."""
        return sorted({number for _, told, number in self._terms if told == name and number is not None})


def outcomes(chosen, table, key, cells):
    """The possible truths of "is in the filter" if only the key and these cells are known."""
    choices = {name: _possible_cells(chosen, table, key, cells, name) for name in chosen.mentions()}
    can_be_in = False
    can_be_out = False
    for part in slices(choices):
        grid, full = spread(part)
        yes, _ = chosen.masks(grid, full)
        can_be_in = can_be_in or yes != 0
        can_be_out = can_be_out or yes != full
    if not can_be_out:
        return (True,)
    if not can_be_in:
        return (False,)
    return True, False


def _possible_cells(chosen, table, key, cells, name):
    """The key or cells of a name that have to be looked at, where only these cells are known."""
    if name == Table.KEY:
        return [key]
    if name not in table:
        return [None]
    if name in cells:
        return [cells[name]]
    return cells_between(chosen.numbers(name), table.column(name).empty)


def _same_entries(one, other):
    """Whether the same entries are in both filters, whatever a table allows."""
    choices = {}
    for name in one.mentions() + other.mentions():
        numbers = one.numbers(name) + other.numbers(name)
        choices[name] = cells_between(numbers, name != Table.KEY)
    for part in slices(choices):
        grid, full = spread(part)
        one_yes, _ = one.masks(grid, full)
        other_yes, _ = other.masks(grid, full)
        if one_yes != other_yes:
            return False
    return True
