"""Books and tables that grow: derived tables, closures, and the greatest parts of a book for a clash number."""

from clashnumber.basics import LETTERS, all_rows, ascending, is_pair, is_row, nonempty_sets, sets_up_to
from clashnumber.errors import NoForm, TooGreat
from clashnumber.forms import MOST_FIELDS, Form
from clashnumber.numbers import check_bound, examine
from clashnumber.searches import Pool
from clashnumber.standing import is_great
from clashnumber.tables import Table


def derived_table(form, *fields):
    """The table of the rows of values of these shown fields that are answers that stand."""
    if is_great(form):
        raise TooGreat()
    pool = Pool(form)
    domain = form.book.domain
    rows = [row for row in all_rows([domain] * len(fields)) if pool.has_filling(tuple(zip(fields, row)))]
    return Table(domain, len(fields), tuple(rows))


def written_out(form, name, part, *fields):
    """The form over the book of the part in which the rules of a derived table are replaced by those of the part."""
    others = [field for field in part.fields if field not in fields]
    uses = [places for table, places in form.rules if table == name]
    count = len(others) * len(uses)
    if len(form.fields) + count > MOST_FIELDS:
        raise NoForm("fields")
    names = new_names(form.fields, count)
    rules = [rule for rule in form.rules if rule[0] != name]
    for at, places in enumerate(uses):
        own = names[at * len(others):]
        name_of = {**dict(zip(others, own)), **dict(zip(fields, places))}
        rules.extend([(table, tuple([name_of[field] for field in row])) for table, row in part.rules])
    hidden = form.hidden + names
    return Form(part.book, form.fields + names, *rules, hidden=hidden)


def new_names(taken, count):
    """So many names, at most thirty, that are none of those that are taken, at most thirty."""
    names = [first + second for first in LETTERS for second in LETTERS]
    return tuple([name for name in names if name not in taken][:count])


def closing(vote, table):
    """The closure of the table under the vote, and for each row that only the closure has the rows that make it."""
    rows = list(table.rows)
    has_row = {row: True for row in rows}
    steps = []
    most = len(Table.full(table.domain, table.width))
    at = 0
    while at < len(rows) < most:
        arguments = arguments_with_last(rows[:at + 1], vote.count)
        for some in arguments:
            row = vote.rows_voted(*some)
            if row not in has_row:
                has_row[row] = True
                rows.append(row)
                steps.append((row, some))
        at = at + 1
    return Table(table.domain, table.width, tuple(rows)), tuple(steps)


def arguments_with_last(rows, count):
    """All tuples of so many of these rows in which the last row is."""
    last = rows[-1:]
    return [
        some
        for place in range(count)
        for some in all_rows([rows[:-1]] * place + [last] + [rows] * (count - 1 - place))
    ]


def closing_holds(vote, table, thing):
    """Whether a value is a closing of the table."""
    if not is_pair(thing) or not isinstance(thing[1], tuple):
        return False
    closure, steps = thing
    has_row = {row: True for row in table.rows}
    for step in steps:
        if not is_pair(step) or not is_row(step[0], table.domain, table.width) or step[0] in has_row:
            return False
        row, rows = step
        if not isinstance(rows, tuple) or len(rows) != vote.count:
            return False
        if not all([is_row(each, table.domain, table.width) and each in has_row for each in rows]):
            return False
        if vote.rows_voted(*rows) != row:
            return False
        has_row[row] = True
    return closure == Table(table.domain, table.width, tuple(has_row)) and vote.keeps(closure)


def greatest_tables(book, most):
    """The greatest sets of tables of the book whose clash number is at most this."""
    check_bound(book, most)
    sets = sets_up_to(book.names, len(book))
    return greatest([names for names in sets if is_at_most(book.only(*names), most)])


def greatest_values(book, most):
    """The greatest nonempty sets of values of the book for which its clash number is at most this."""
    check_bound(book, most)
    return greatest([values for values in nonempty_sets(book.domain) if is_at_most(book.cut(values), most)])


def is_at_most(book, most):
    """Whether the clash number of the book is at most this."""
    return examine(book, most)[0] == "at most"


def greatest(sets):
    """Those of the sets that no other one contains, ascending."""
    return ascending([some for some in sets if not any([is_less(some, other) for other in sets])])


def is_less(some, other):
    """Whether the other set contains the one, and is not equal to it."""
    return some != other and all([item in other for item in some])
