"""Tables: rows of one to three values."""

from clashnumber.basics import all_rows, ascending, is_domain, is_integer, is_row
from clashnumber.errors import NoTable

MOST_WIDTH = 3


class Table:
    """A set of rows of one width over some values."""

    def __init__(self, domain, width, rows=()):
        if not is_domain(domain):
            raise NoTable("domain")
        if not is_integer(width) or not 1 <= width <= MOST_WIDTH:
            raise NoTable("width")
        if not isinstance(rows, tuple) or not all([is_row(row, domain, width) for row in rows]):
            raise NoTable("rows")
        kept = ascending(rows)
        self.domain = domain
        self.width = width
        self.rows = kept
        self.is_full = kept == all_rows([domain] * width)
        self.is_product = kept == all_rows([column_of(kept, place) for place in range(width)])

    @classmethod
    def full(cls, domain, width):
        """The table of all rows of this width."""
        return ~cls(domain, width)

    @classmethod
    def product(cls, domain, *columns):
        """The table of all rows with a value of each column."""
        return cls(domain, len(columns), all_rows(columns))

    def __eq__(self, other):
        return (
            isinstance(other, Table)
            and self.domain == other.domain
            and self.width == other.width
            and self.rows == other.rows
        )

    def __contains__(self, row):
        return row in self.rows

    def __len__(self):
        return len(self.rows)

    def __iter__(self):
        return iter(self.rows)

    def __and__(self, other):
        check_alike(self, other)
        return Table(self.domain, self.width, tuple([row for row in self.rows if row in other.rows]))

    def __or__(self, other):
        check_alike(self, other)
        return Table(self.domain, self.width, self.rows + other.rows)

    def __sub__(self, other):
        check_alike(self, other)
        return Table(self.domain, self.width, tuple([row for row in self.rows if row not in other.rows]))

    def __mul__(self, other):
        if not isinstance(other, Table) or self.domain != other.domain:
            raise NoTable("unlike")
        rows = [left + right for left in self.rows for right in other.rows]
        # A width of more than three is refused when the table is made.
        return Table(self.domain, self.width + other.width, tuple(rows))

    def __invert__(self):
        others = [row for row in all_rows([self.domain] * self.width) if row not in self.rows]
        return Table(self.domain, self.width, tuple(others))

    def column(self, place):
        """The ascending tuple of the values that rows have at a place."""
        return column_of(self.rows, place)

    def picked(self, *places):
        """The table of the rows of the values at these places."""
        rows = [tuple([row[place] for place in places]) for row in self.rows]
        return Table(self.domain, len(places), tuple(rows))

    def cut(self, values):
        """The table over some of the values, with the rows that consist of them."""
        rows = [row for row in self.rows if is_row(row, values, self.width)]
        return Table(values, self.width, tuple(rows))


def column_of(rows, place):
    """The ascending tuple of the values of the rows at a place."""
    return ascending([row[place] for row in rows])


def check_alike(table, other):
    """Raise an error if the other value is no table over the same values and of the same width."""
    if not isinstance(other, Table) or table.domain != other.domain or table.width != other.width:
        raise NoTable("unlike")
