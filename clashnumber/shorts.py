"""Short tables: they tell of a form, by rows over a few fields each, which answers stand."""

from clashnumber.basics import ascending, sets_up_to
from clashnumber.books import Book
from clashnumber.errors import Clash, NoForm, NoNumber
from clashnumber.forms import Form
from clashnumber.joining import tables_joined, tables_of_rows
from clashnumber.keeping import number_of
from clashnumber.searches import check_of


class Short:
    """The short tables of a form over a book whose clash number is known."""

    def __init__(self, form):
        number = number_of(form.book)
        if number is None:
            raise NoNumber()
        length = max(number, 2)
        checks = [check_of(form, rule) for rule in form.rules]
        parts = [tables_of_rows(fields, rows, length) for _, fields, rows in checks]
        tables = tables_joined(form.fields, form.book.domain, length, parts)
        self.book = form.book
        self.fields = form.shown
        self.length = length
        self.tables = tables_lacking(tables, form.hidden)
        self.stands = len(tables[()]) > 0

    def __eq__(self, other):
        return (
            isinstance(other, Short)
            and self.book == other.book
            and self.fields == other.fields
            and self.tables == other.tables
        )

    def __contains__(self, answers):
        return least_missing(self, answers) is None

    def __and__(self, other):
        if not isinstance(other, Short) or self.book != other.book:
            raise NoForm("book")
        fields = ascending(self.fields + other.fields)
        tables = tables_joined(fields, self.book.domain, self.length, [self.tables, other.tables])
        return short_of(self.book, fields, self.length, tables)

    def hiding(self, *fields):
        """The short tables without these fields."""
        shown = tuple([field for field in self.fields if field not in fields])
        return short_of(self.book, shown, self.length, tables_lacking(self.tables, fields))

    def rows_of(self, *fields):
        """The rows for these fields, at most so many as the length, in this order."""
        known = ascending(fields)
        places = [known.index(field) for field in fields]
        return ascending([tuple([row[place] for place in places]) for row in self.tables[known]])

    def completed(self, *answers):
        """A tuple of values of all fields that are answers that stand and contain these."""
        given = ascending(answers)
        clash = least_missing(self, given)
        if clash is not None:
            raise Clash(clash)
        answered = dict(given)
        for field in self.fields:
            if field not in answered:
                longer = [ascending(given + ((field, value),)) for value in self.book.domain]
                # All rows can be continued to each field: some value always goes with those that are there.
                given = [more for more in longer if least_missing(self, more) is None][0]
        return tuple([value for _, value in given])


def short_of(book, fields, length, tables):
    """Short tables that are known without a form."""
    # An object is made of a form. This one has nothing in it, so that there is nothing to work out twice.
    short = Short(Form(Book(book.domain), ()))
    short.book = book
    short.fields = fields
    short.length = length
    short.tables = tables
    short.stands = len(tables[()]) > 0
    return short


def tables_lacking(tables, fields):
    """Those of the short tables that have none of these fields."""
    return {some: rows for some, rows in tables.items() if not any([field in fields for field in some])}


def least_missing(short, answers):
    """As few of the answers as possible that are no row of the short tables, or None if the answers stand."""
    for some in sets_up_to(answers, short.length):
        if tuple([value for _, value in some]) not in short.tables[tuple([field for field, _ in some])]:
            return some
    return None


def parted(short, other):
    """None if the short tables are equal, otherwise as few answers as possible that stand in just one of them."""
    if not isinstance(short, Short) or not isinstance(other, Short) or short.book != other.book:
        raise NoForm("book")
    if short.fields != other.fields:
        raise NoForm("fields")
    for some, rows in short.tables.items():
        others = other.tables[some]
        parting = [row for row in rows if row not in others] + [row for row in others if row not in rows]
        if len(parting) > 0:
            return tuple(zip(some, parting[0]))
    return None
