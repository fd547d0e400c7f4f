"""Pools: the few keys and rows that a search has to try, as they stand for all others.

Of an integer only its place among the numbers of the filters counts, and whether it is equal to other cells that
are there now. So two states have the same shape if the one becomes the other when integers that lie in the same gap
between the numbers are exchanged.
"""

from filteredcopies.grids import samples
from filteredcopies.networks import joint_numbers
from filteredcopies.tables import Table


class Pool:
    """The integers of one column that a search tries, and None if the column may be empty."""

    def __init__(self, numbers, many, empty):
        # Numbers are ascending; of each gap beside them the search tries at most so many integers at a time.
        self._empty = empty
        self._groups = _groups(numbers, many)
        self._group_of = {cell: at for at, group in enumerate(self._groups) for cell in group}
        # What was worked out already, as searches ask the same again and again.
        self._shapes = {}

    def near(self, cells):
        """The cells that stand for all if these are there: each of them, and of each group one that is new."""
        used = [cell for cell in self._group_of if cell in cells]
        found = [None] if self._empty else []
        found.extend(used)
        for group in self._groups:
            found.extend([cell for cell in group if cell not in used][:1])
        return found

    def shape(self, cells):
        """The same tuple for all cells that become one another if integers of the same group are exchanged."""
        if cells not in self._shapes:
            self._shapes[cells] = self._shape_of(cells)
        return self._shapes[cells]

    def _shape_of(self, cells):
        """The same, worked out anew: for each cell its group, and how many others of this group stand before it."""
        named = {None: None}
        many = [0] * len(self._groups)
        for cell in cells:
            if cell not in named:
                group = self._group_of[cell]
                named[cell] = (group, many[group])
                many[group] += 1
        return tuple([named[cell] for cell in cells])


def _groups(numbers, many):
    """Lists of integers: each number alone, and the gaps beside them, with at most so many integers of each.

    The numbers are ascending, each once.
    """
    if not numbers:
        return [list(range(many))]
    groups = [[numbers[0] - 1 - at for at in range(many)]]
    for number, following in zip(numbers, [*numbers[1:], None]):
        groups.append([number])
        end = number + 1 + many
        if following is not None:
            end = min(end, following)
        groups.append(list(range(number + 1, end)))
    return [group for group in groups if group]


class Pools:
    """The keys and rows that a search tries, and the shapes of its states.

    A state has some rows, or None in their place; the first one is that of the table, which all networks have. The
    layout tells for each row the names of its columns.
    """

    def __init__(self, networks, layout):
        self._columns = networks[0].table.columns
        # A state has at most one cell of a column in each row, and one more comes with a change.
        many = 1 + len(layout)
        self._pools = [Pool(joint_numbers(networks, column.name), many, column.empty) for column in self._columns]
        self._places = [
            [(at, names.index(column.name)) for at, names in enumerate(layout) if column.name in names]
            for column in self._columns
        ]
        self.key_samples = samples(joint_numbers(networks, Table.KEY))

    def shape(self, rows):
        """The same tuple for all states that become one another if integers of the same groups are exchanged."""
        there = tuple([row is not None for row in rows])
        shapes = [pool.shape(self._cells_in(rows, places)) for pool, places in zip(self._pools, self._places)]
        return there, *shapes

    def _cells_in(self, rows, places):
        """The cells that a state has in a column."""
        return tuple([None if rows[at] is None else rows[at][place] for at, place in places])

    def rows_after(self, rows):
        """The rows that a change of the table can lead to, as far as a search has to try them; None for no row."""
        found = [] if rows[0] is None else [None]
        found.extend(self.rows_near(rows))
        return found

    def rows_near(self, rows):
        """Likewise, but only rows."""
        found = [()]
        for column, pool, places in zip(self._columns, self._pools, self._places):
            if column.fixed and rows[0] is not None:
                cells = [rows[0][places[0][1]]]
            else:
                cells = pool.near(self._cells_in(rows, places))
            found = [(*row, cell) for row in found for cell in cells]
        return found
