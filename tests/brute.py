"""The points of the document straight from their words, by trying everything; and books and forms to try it on."""

import random
from itertools import combinations, product

from clashnumber.books import Book
from clashnumber.forms import Form
from clashnumber.tables import Table
from samples import BITS, COAT, EITHER, NOTBOTH, PAIRS, THIRTY, TRIT

PARITY = Table(BITS, 3, tuple(row for row in product(BITS, repeat=3) if row.count("yes") % 2))
HORN = Table(BITS, 3, tuple(row for row in product(BITS, repeat=3) if row != ("yes", "yes", "no")))
NOTALL = ~Table(BITS, 3, (("yes", "yes", "yes"),))
SOME = ~Table(BITS, 3, (("no", "no", "no"),))
UNLIKE = Table(TRIT, 2, tuple(row for row in product(TRIT, repeat=2) if row[0] != row[1]))
NEXT = Table(TRIT, 2, (("a", "b"), ("b", "c"), ("c", "a")))
BELOW = Table(TRIT, 2, (("a", "a"), ("a", "b"), ("a", "c"), ("b", "b"), ("b", "c"), ("c", "c")))
ORDER = Table(TRIT, 2, (("a", "b"), ("a", "c"), ("b", "c")))

# Each book with its clash number, and whether some choice keeps it.
BOOKS = (
    (Book(("only",)), 0, True),
    (Book(("only",), (("all", Table.full(("only",), 3)), ("none", Table(("only",), 2)))), 0, True),
    (Book(BITS), 0, True),
    (Book(TRIT), 0, True),
    (Book(BITS, (("all", Table.full(BITS, 3)), ("none", Table(BITS, 1)), ("pair", Table.full(BITS, 2)))), 0, True),
    (Book(BITS, (("is", Table(BITS, 1, (("yes",),))),)), 1, True),
    (Book(BITS, tuple((name, Table.product(BITS, ("no",), BITS)) for name in ("a", "b", "c", "d"))), 1, True),
    (Book(TRIT, (("box", Table.product(TRIT, ("a", "c"), ("a", "b"), ("b", "c"))), ("none", Table(TRIT, 3)))), 1, True),
    (PAIRS, 2, False),
    (Book(BITS, (("either", EITHER),)), 2, True),
    (Book(TRIT, (("next", NEXT),)), 2, False),
    (Book(TRIT, (("below", BELOW),)), 2, True),
    (Book(TRIT, (("below", BELOW), ("order", ORDER))), 2, True),
    (Book(BITS, (("notall", NOTALL),)), 3, True),
    (Book(BITS, (("either", EITHER), ("notall", NOTALL))), None, False),
    (Book(BITS, (("some", SOME),)), 3, True),
    (Book(BITS, (("notall", NOTALL), ("some", SOME))), None, False),
    (Book(BITS, (("horn", HORN),)), None, True),
    (Book(BITS, (("even", ~PARITY), ("odd", PARITY))), None, False),
    (Book(TRIT, (("unlike", UNLIKE),)), None, False),
    (Book(TRIT, (("below", BELOW), ("next", NEXT), ("order", ORDER), ("unlike", UNLIKE))), None, False),
)
ODDS = Book(BITS, (("even", ~PARITY), ("odd", PARITY)))
HORNS = Book(BITS, (("horn", HORN),))
TRIO = Book(BITS, (("notall", NOTALL),))
COLOURS = Book(TRIT, (("unlike", UNLIKE),))


def some_book(source, domain):
    """A book over these values with up to three tables."""
    tables = []
    for name in ("one", "two", "three")[:source.randint(0, 3)]:
        width = source.choice((1, 2, 2, 3))
        rows = list(product(domain, repeat=width))
        tables.append((name, Table(domain, width, tuple(source.sample(rows, source.randint(0, min(8, len(rows))))))))
    return Book(domain, tuple(tables))


def some_form(source, book, most):
    """A form over the book with at most so many fields, some of them hidden, and rules on any of them."""
    fields = THIRTY[:source.randint(0, most)]
    rules = []
    for _ in range(source.randint(0, 2 * len(fields)) if book.names else 0):
        name = source.choice(book.names)
        rules.append((name, tuple(source.choice(fields) for _ in range(book[name].width))))
    return Form(book, fields, *rules, hidden=tuple(source.sample(fields, source.randint(0, len(fields) // 2))))


def some_forms(seed, many):
    """So many forms over other books each, small enough to try everything."""
    source = random.Random(seed)
    for at in range(many):
        book = BOOKS[at % len(BOOKS)][0] if at % 2 else some_book(source, source.choice((("x",), BITS, BITS, TRIT)))
        yield some_form(source, book, 4 if len(book.domain) > 2 else 5)


def all_fillings(form):
    """Point 6."""
    return [some for some in product(form.book.domain, repeat=len(form.fields)) if is_right_filling(form, some)]


def is_right_filling(form, thing):
    """Whether a value is a filling."""
    if not is_tuple(thing, len(form.fields)) or not all(value in form.book.domain for value in thing):
        return False
    value_of = dict(zip(form.fields, thing))
    return all(tuple(value_of[field] for field in fields) in form.book[name].rows for name, fields in form.rules)


def all_answers(form):
    """All answers to a form, those with fewer pairs first, equally many ascending."""
    found = []
    for size in range(len(form.shown) + 1):
        for fields in combinations(form.shown, size):
            found.extend(tuple(zip(fields, values)) for values in product(form.book.domain, repeat=size))
    return sorted(found, key=lambda answers: (len(answers), answers))


def having(form, found, answers):
    """The fillings among some that have the answers."""
    return [some for some in found if all(some[form.fields.index(field)] == value for field, value in answers)]


def all_least_clashes(form):
    """Point 7."""
    found = all_fillings(form)
    clashing = [set(answers) for answers in all_answers(form) if not having(form, found, answers)]
    return tuple(tuple(sorted(some)) for some in clashing if not any(other < some for other in clashing))


def is_result(votes, count, table):
    """Whether the votes, a dict, keep a table: point 9."""
    return all(
        tuple(votes[tuple(row[place] for row in rows)] for place in range(table.width)) in table.rows
        for rows in product(table.rows, repeat=count)
    )


def all_votes(domain, count):
    """All votes of count over some values, as their results."""
    columns = []
    for some in product(domain, repeat=count):
        most = [value for value in domain if some.count(value) >= count - 1]
        columns.append(most or domain)
    return product(*columns)


def vote_keeps(domain, count, results, book):
    """Whether a vote, told by its results, keeps a book."""
    votes = dict(zip(product(domain, repeat=count), results))
    return all(is_result(votes, count, book[name]) for name in book)


def all_sets(things):
    """All nonempty sets of some ascending things, as tuples, those with fewer first, equally many ascending."""
    return [some for size in range(1, len(things) + 1) for some in combinations(things, size)]


def all_choices(domain):
    """All choices over some values, as their results."""
    return product(*[some if len(some) == 1 else domain for some in all_sets(domain)])


def choice_keeps(domain, results, book):
    """Whether a choice, told by its results, keeps a book: point 14."""
    choices = dict(zip(all_sets(domain), results))
    for name in book:
        for rows in all_sets(book[name].rows):
            columns = [tuple(sorted({row[place] for row in rows})) for place in range(book[name].width)]
            if tuple(choices[column] for column in columns) not in book[name].rows:
                return False
    return True


TRIED = {}


def number_tried(book):
    """The clash number of a book, or None: point 10. Each book is tried once."""
    if book.text not in TRIED:
        TRIED[book.text] = number_found(book)
    return TRIED[book.text]


def number_found(book):
    tables = [book[name] for name in book]
    if all(len(table) in (0, len(book.domain) ** table.width) for table in tables):
        return 0
    if all(set(table.rows) == set(product(*[table.column(at) for at in range(table.width)])) for table in tables):
        return 1
    for count in (3, 4)[:4 - max(2, len(book.domain))]:
        if any(vote_keeps(book.domain, count, results, book) for results in all_votes(book.domain, count)):
            return count - 1
    return None


def narrowed_tried(form, answers):
    """Point 13, by looking at everything again after each change."""
    left = {field: set(form.book.domain) for field in form.fields}
    for field, value in answers:
        left[field] = {value}
    changed = True
    while changed:
        changed = False
        for name, fields in form.rules:
            rows = [row for row in form.book[name].rows if all(value in left[f] for f, value in zip(fields, row))]
            for place, field in enumerate(fields):
                for value in sorted(left[field]):
                    if value not in [row[place] for row in rows]:
                        left[field].discard(value)
                        changed = True
    return tuple(tuple(sorted(left[field])) for field in form.fields)


def is_at_most(book, most):
    """Whether the clash number of a book is at most this; for at most 2, or two values: points 10 and 3."""
    number = number_tried(book)
    return number is not None and number <= most


def greatest_tried(sets, is_right):
    """Point 20: those of the sets that are right, if no right one contains them."""
    right = [some for some in sets if is_right(some)]
    return tuple(sorted(some for some in right if not any(set(some) < set(other) for other in right)))


def standing_rows(form, *fields):
    """The rows of values of some shown fields that are answers that stand."""
    places = [form.fields.index(field) for field in fields]
    return tuple(sorted({tuple(some[place] for place in places) for some in all_fillings(form)}))


def shown_rows(form):
    """All that the shown fields can have together: two forms are alike exactly if this is equal."""
    return standing_rows(form, *form.shown)


def voted(vote, rows):
    """The row of the votes, told by the results of the vote alone."""
    votes = dict(zip(product(vote.domain, repeat=vote.count), vote.results))
    return tuple(votes[column] for column in zip(*rows))


def closure_tried(vote, table):
    """Point 12, by adding what is missing until nothing is."""
    votes = dict(zip(product(vote.domain, repeat=vote.count), vote.results))
    rows = set(table.rows)
    while True:
        more = {tuple(votes[column] for column in zip(*some)) for some in product(sorted(rows), repeat=vote.count)}
        if more <= rows:
            return Table(table.domain, table.width, tuple(rows))
        rows |= more


def is_closing(vote, table, closure, thing):
    """Point 12, for the closure of the table."""
    if not is_tuple(thing, 2) or type(thing[0]) is not Table or not is_tuple(thing[1]) or thing[0] != closure:
        return False
    known = list(table.rows)
    for step in thing[1]:
        if not is_tuple(step, 2) or not is_tuple(step[0], table.width) or not is_tuple(step[1], vote.count):
            return False
        if step[0] in known or not all(is_tuple(row) and row in known for row in step[1]):
            return False
        if step[0] != voted(vote, step[1]):
            return False
        known.append(step[0])
    return sorted(known) == list(closure.rows)


def is_blind(book, thing):
    """Point 14."""
    if not is_tuple(thing, 3) or type(thing[0]) is not Form or thing[0].book != book:
        return False
    form, answers, derivation = thing
    if not are_pairs_of(form.shown, book.domain, answers):
        return False
    return () not in narrowed_tried(form, answers) and is_derivation(form, answers, derivation)


def tree(form, answers):
    """A derivation that tries all values of all fields, for a form without fillings that have the answers."""
    steps = []

    def add(pairs, fields):
        nogood = tuple(sorted(pairs.items()))
        for index, (name, places) in enumerate(form.rules):
            if all(field in pairs for field in places):
                if tuple(pairs[field] for field in places) not in form.book[name]:
                    steps.append((nogood, ("rule", index)))
                    return len(steps) - 1
        numbers = tuple(add({**pairs, fields[0]: value}, fields[1:]) for value in form.book.domain)
        steps.append((nogood, ("field", fields[0], numbers)))
        return len(steps) - 1

    add(dict(answers), tuple(field for field in form.fields if field not in dict(answers)))
    return tuple(steps)


def is_tuple(thing, size=None):
    return type(thing) is tuple and (size is None or len(thing) == size)


def are_pairs_of(fields, domain, thing):
    """Whether a value is an ascending tuple of pairs of distinct fields among these and values."""
    if not is_tuple(thing) or not all(is_tuple(pair, 2) for pair in thing):
        return False
    if not all(type(pair[0]) is str and type(pair[1]) is str for pair in thing):
        return False
    named = [field for field, _ in thing]
    return named == sorted(set(named) & set(fields)) and all(value in domain for _, value in thing)


def is_derivation(form, answers, thing):
    """Point 8."""
    if not is_tuple(thing) or not all(is_tuple(step, 2) for step in thing):
        return False
    for at, (nogood, reason) in enumerate(thing):
        if not are_pairs_of(form.fields, form.book.domain, nogood) or not is_tuple(reason):
            return False
        if not is_right_rule(form, nogood, reason) and not is_right_field(form, nogood, reason, thing[:at]):
            return False
    return any(set(nogood) <= set(answers) for nogood, _ in thing)


def is_right_rule(form, nogood, reason):
    if len(reason) != 2 or reason[0] != "rule" or type(reason[1]) is not int:
        return False
    if reason[1] < 0 or reason[1] >= len(form.rules):
        return False
    name, fields = form.rules[reason[1]]
    for row in form.book[name].rows:
        told = set(zip(fields, row)) | {(field, value) for field, value in nogood if field in fields}
        if len(told) == len(set(fields)):
            return False
    return True


def is_right_field(form, nogood, reason, earlier):
    if len(reason) != 3 or reason[0] != "field" or reason[1] not in form.fields or not is_tuple(reason[2]):
        return False
    if reason[1] in [field for field, _ in nogood] or len(reason[2]) != len(form.book.domain):
        return False
    for value, number in zip(form.book.domain, reason[2]):
        if type(number) is not int or number < 0 or number >= len(earlier):
            return False
        if not set(earlier[number][0]) <= set(nogood) | {(reason[1], value)}:
            return False
    return True


def is_least_clash(form, thing):
    """Point 7: a least clash, a filling for each answer of it, and a derivation."""
    if not is_tuple(thing, 3) or not are_pairs_of(form.shown, form.book.domain, thing[0]) or not is_tuple(thing[1]):
        return False
    clash, found, derivation = thing
    if len(found) != len(clash) or not all(is_right_filling(form, some) for some in found):
        return False
    if not all(having(form, [some], [p for p in clash if p != pair]) for pair, some in zip(clash, found)):
        return False
    return is_derivation(form, clash, derivation)


def is_worst(book, most, thing):
    """Point 11."""
    if not is_tuple(thing, 4) or type(thing[0]) is not Form or thing[0].book != book:
        return False
    form, answers, found, derivation = thing
    if not are_pairs_of(form.shown, book.domain, answers) or not is_tuple(found):
        return False
    if not all(is_right_filling(form, some) for some in found):
        return False
    for size in range(min(most, len(answers)) + 1):
        if not all(having(form, found, some) for some in combinations(answers, size)):
            return False
    return is_derivation(form, answers, derivation)


OTHER_PARTS = (
    None, True, False, 0, 1, 2, -1, 10 ** 39, "", "no", "yes", "a", "rule", "field", (), [], {}, ("a", "no"), ((),),
    (("a", "no"),), ("rule", 0), (("rule", 0),), COAT, PAIRS, EITHER, NOTBOTH,
)


def put_otherwise(thing):
    """A value with one part put otherwise: left out, twice, exchanged, in another place, or another value."""
    yield from OTHER_PARTS
    if isinstance(thing, tuple):
        yield list(thing)
        yield thing + (None,)
        yield thing[::-1]
        for at, part in enumerate(thing):
            yield thing[:at] + thing[at + 1:]
            yield thing[:at] + (part,) + thing[at:]
            yield thing[:at] + thing[at + 1:] + (part,)
            yield (part,) + thing[:at] + thing[at + 1:]
            for other in put_otherwise(part):
                yield thing[:at] + (other,) + thing[at + 1:]
    if isinstance(thing, int):
        yield thing + 1
        yield thing - 1
        yield bool(thing)
        yield str(thing)
    if isinstance(thing, str):
        yield thing + "x"
        yield [thing]
        yield (thing,)
