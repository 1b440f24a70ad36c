"""Books: values, and named tables over them."""

from clashnumber.basics import ascending, is_domain, is_name, is_pair, text_of, words_of
from clashnumber.errors import InvalidText, NoBook, NoTable
from clashnumber.tables import Table

MOST_TABLES = 4
MOST_ROWS = 8
WIDTHS = {"1": 1, "2": 2, "3": 3}


class Book:
    """Values and at most four tables over them, each with a name."""

    def __init__(self, domain, tables=()):
        if not is_domain(domain):
            raise NoBook("domain")
        if not are_tables(tables, domain):
            raise NoBook("tables")
        names = ascending([name for name, _ in tables])
        if len(names) < len(tables):
            raise NoBook("name")
        if any([len(table.rows) > MOST_ROWS for _, table in tables]):
            raise NoBook("rows")
        table_of = dict(tables)
        self.domain = domain
        self.names = names
        self.tables = tuple([(name, table_of[name]) for name in names])
        self.text = text_of(book_lines(self.domain, self.tables))

    @classmethod
    def read(cls, text):
        """The book that has exactly this text."""
        first, *others = words_of(text)
        domain = tuple(first[1:])
        try:
            book = cls(domain, tables_told(domain, others))
        except (NoTable, NoBook):
            raise InvalidText() from None
        if book.text != text:
            raise InvalidText()
        return book

    def __eq__(self, other):
        return isinstance(other, Book) and self.domain == other.domain and self.tables == other.tables

    def __getitem__(self, name):
        for known, table in self.tables:
            if known == name:
                return table
        raise NoBook("name")

    def __contains__(self, name):
        return name in self.names

    def __len__(self):
        return len(self.tables)

    def __iter__(self):
        return iter(self.names)

    def with_table(self, name, table):
        """The book with one more table."""
        return Book(self.domain, self.tables + ((name, table),))

    def only(self, *names):
        """The book with these of its tables alone."""
        if not all([name in self.names for name in names]):
            raise NoBook("name")
        return Book(self.domain, tuple([(name, table) for name, table in self.tables if name in names]))

    def cut(self, values):
        """The book over some of its values."""
        return Book(values, tuple([(name, table.cut(values)) for name, table in self.tables]))


def are_tables(thing, domain):
    """Whether a value is a tuple of at most four pairs of a name and a table over these values."""
    if not isinstance(thing, tuple) or len(thing) > MOST_TABLES:
        return False
    return all([is_pair(item) and is_name(item[0]) and is_table(item[1], domain) for item in thing])


def is_table(thing, domain):
    """Whether a value is a table over these values."""
    return isinstance(thing, Table) and thing.domain == domain


def book_lines(domain, tables):
    """The words of the lines of a book's text."""
    return [("values",) + domain] + [line for name, table in tables for line in table_lines(name, table)]


def table_lines(name, table):
    """The words of the lines that tell a table of a book."""
    return [("table", name, str(table.width))] + [("row",) + row for row in table.rows]


def tables_told(domain, lines):
    """The names and tables that lines of a book's text tell."""
    # A line that tells nothing is left out: then the book has another text, and is refused for that.
    told = []
    for words in lines:
        if words[0] == "table" and len(words) == 3:
            told.append((words[1], WIDTHS.get(words[2]), []))
        elif words[0] == "row" and len(told) > 0:
            told[-1][2].append(tuple(words[1:]))
    return tuple([(name, Table(domain, width, tuple(rows))) for name, width, rows in told])
