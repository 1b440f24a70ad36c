"""Votes and choices: functions that complete forms if they keep the tables of a book."""

from clashnumber.basics import all_rows, ascending, is_domain, is_row, nonempty_sets, without
from clashnumber.candidates import candidates_left
from clashnumber.errors import NoChoice, NoVote


class Vote:
    """A function of three or four values; it returns the value that all, or all but one, of them are."""

    def __init__(self, domain, count, results):
        if not is_domain(domain):
            raise NoVote("domain")
        if count not in (3, 4):
            raise NoVote("count")
        arguments = all_rows([domain] * count)
        if not is_row(results, domain, len(arguments)):
            raise NoVote("results")
        if not all([winner(some) in (None, result) for some, result in zip(arguments, results)]):
            raise NoVote("odd")
        self.domain = domain
        self.count = count
        self.results = results
        self.result_of = dict(zip(arguments, results))

    @classmethod
    def middle(cls, domain):
        """The vote of three that returns the middle one of its arguments."""
        return cls(domain, 3, tuple([sorted(some)[1] for some in all_rows([domain] * 3)]))

    def __eq__(self, other):
        return (
            isinstance(other, Vote)
            and self.domain == other.domain
            and self.count == other.count
            and self.results == other.results
        )

    def __call__(self, some):
        if not isinstance(some, tuple) or len(some) != self.count:
            raise NoVote("count")
        if not is_row(some, self.domain, self.count):
            raise NoVote("domain")
        return self.result_of[some]

    def rows_voted(self, *rows):
        """The row of the votes of the values at each place."""
        if len(rows) != self.count:
            raise NoVote("count")
        return tuple([self.result_of[column] for column in zip(*rows)])

    def keeps(self, table):
        """Whether the votes of any rows of the table are a row of it."""
        return self.broken(table) is None

    def broken(self, table):
        """None, or rows of the table and the row of their votes, which the table does not have."""
        if table.is_full:
            return None
        has_row = {row: True for row in table.rows}
        for rows in all_rows([table.rows] * self.count):
            row = tuple([self.result_of[column] for column in zip(*rows)])
            if row not in has_row:
                return rows, row
        return None

    def keeps_book(self, book):
        """Whether it keeps each table of the book."""
        return all([self.keeps(table) for _, table in book.tables])


class Choice:
    """A function of nonempty sets of values; it returns the value of a set of one."""

    def __init__(self, domain, results):
        if not is_domain(domain):
            raise NoChoice("domain")
        arguments = nonempty_sets(domain)
        if not is_row(results, domain, len(arguments)):
            raise NoChoice("results")
        if results[:len(domain)] != domain:
            raise NoChoice("odd")
        self.domain = domain
        self.results = results
        self.result_of = dict(zip(arguments, results))

    @classmethod
    def least(cls, domain):
        """The choice of the least value."""
        return cls(domain, tuple([some[0] for some in nonempty_sets(domain)]))

    def __eq__(self, other):
        return isinstance(other, Choice) and self.domain == other.domain and self.results == other.results

    def __call__(self, some):
        if not isinstance(some, tuple) or len(some) == 0 or not is_row(some, self.domain, len(some)):
            raise NoChoice("domain")
        return self.result_of[ascending(some)]

    def keeps(self, table):
        """Whether the choices of the columns of any rows of the table are a row of it."""
        return self.broken(table) is None

    def broken(self, table):
        """None, or rows of the table and the row of the choices of their columns, which it does not have."""
        # All rows within some columns have the largest columns that rows within them can have. So it is enough to
        # look at the sets of rows that are found thus, of which there are fewer than sets of rows.
        for columns in all_rows([nonempty_sets(table.column(place)) for place in range(table.width)]):
            rows = [row for row in table.rows if all([value in column for value, column in zip(row, columns)])]
            row = tuple([self.result_of[column] for column in columns])
            if row not in table.rows and tuple([ascending(column) for column in zip(*rows)]) == columns:
                return tuple(rows), row
        return None

    def keeps_book(self, book):
        """Whether it keeps each table of the book."""
        return all([self.keeps(table) for _, table in book.tables])

    def filling(self, form, answers=()):
        """The choices of the candidates that narrowing leaves, or None if it leaves none for some field."""
        left = candidates_left(form, answers)
        if () in left:
            return None
        return tuple([self.result_of[values] for values in left])


def winner(some):
    """The value that all, or all but one, of these are, or None."""
    for value in some:
        if len(without(some, value)) < 2:
            return value
    return None
