"""Tables: their columns, and what a row of them is."""

from filteredcopies.errors import BadColumn, BadRow, BadTable, NoColumn
from filteredcopies.plain import is_integer, is_word


class Column:
    """A column of a table; in any combination it may be large, fixed and empty."""

    def __init__(self, name, *, large=False, fixed=False, empty=False):
        if not is_word(name) or name == Table.KEY:
            raise BadColumn(name)
        self.name = name
        self.large = large
        self.fixed = fixed
        self.empty = empty

    def __eq__(self, other):
        return (isinstance(other, Column) and self.name == other.name and self.large == other.large
                and self.fixed == other.fixed and self.empty == other.empty)


class Table:
    """One to three columns with different names; each row has a key beside them."""

    KEY = "key"
    MOST = 3

    def __init__(self, columns):
        if not 1 <= len(columns) <= Table.MOST:
            raise BadTable(-1)
        names = []
        for at, column in enumerate(columns):
            if not isinstance(column, Column) or column.name in names:
                raise BadTable(at)
            names.append(column.name)
        self.columns = tuple(columns)
        self.names = tuple(names)

    @classmethod
    def of(cls, *columns):
        """The table with these columns."""
        return cls(list(columns))

    def column(self, name):
        """The column of this name."""
        for column in self.columns:
            if column.name == name:
                return column
        raise NoColumn(name)

    def check(self, key, cells):
        """Raise an error unless the key and the cells are a row of this table."""
        if not is_integer(key):
            raise BadRow(Table.KEY)
        if not isinstance(cells, dict) or set(cells) != set(self.names):
            raise BadRow(None)
        for column in self.columns:
            if not _takes(column, cells[column.name]):
                raise BadRow(column.name)

    def __contains__(self, x):
        return x in self.names

    def __len__(self):
        return len(self.columns)

    def __eq__(self, other):
        return isinstance(other, Table) and self.columns == other.columns


def _takes(column, cell):
    """Whether any value can be a cell of the column."""
    return is_integer(cell) or (cell is None and column.empty)
