"""The clash number of a book: how many answers a contradiction takes, and what shows it."""

from clashnumber.basics import all_rows, is_integer
from clashnumber.errors import NoBound
from clashnumber.forms import Form, is_answers, is_filling
from clashnumber.keeping import names_of, number_of, vote_keeping
from clashnumber.proofs import derivation_of, form_of
from clashnumber.standing import derivation_holds

MOST_BOUND = 3
PLACES = ("a", "b", "c")


def examine(book, most):
    """("at most", a vote or None) if the clash number is at most this, otherwise ("more", a worst form)."""
    check_bound(book, most)
    if most > 1:
        vote, proof = vote_keeping(book, most + 1)
        if proof is None:
            return ("at most", vote)
        return ("more", worst_without_vote(book, most, proof))
    worst = worst_of_row(book, most)
    return ("at most", None) if worst is None else ("more", worst)


def clash_number(book):
    """The clash number of the book, or None if it is not known."""
    return number_of(book)


def check_bound(book, thing):
    """Raise an error if a value is no number that the clash number of the book can be compared with."""
    if not is_integer(thing) or not 0 <= thing <= MOST_BOUND or (thing == MOST_BOUND and len(book.domain) > 2):
        raise NoBound(thing)


def worst_without_vote(book, most, proof):
    """The worst form that a proof makes which shows that no vote of one more keeps the book."""
    arguments = all_rows([book.domain] * (most + 1))
    argument_of = {field: some for some, field in names_of(arguments).items()}
    form = form_of(book, proof)
    found = [tuple([argument_of[field][place] for field in form.fields]) for place in range(most + 1)]
    return form, proof.nogood, tuple(found), derivation_of(form, proof)


def worst_of_row(book, most):
    """A worst form for 0 or 1 that is one rule, of a table that lacks a row, or None if there is none."""
    for name, table in book.tables:
        columns = [book.domain if most == 0 else table.column(place) for place in range(table.width)]
        missing = [row for row in all_rows(columns) if row not in table]
        if len(table) > 0 and len(missing) > 0:
            fields = PLACES[:table.width]
            answers = tuple(zip(fields, missing[0]))
            return Form(book, fields, (name, fields)), answers, table.rows, ((answers, ("rule", 0)),)
    return None


def worst_holds(book, most, thing):
    """Whether a value is a worst form of the book for this number."""
    if not isinstance(thing, tuple) or len(thing) != 4:
        return False
    form, answers, found, derivation = thing
    if not isinstance(form, Form) or form.book != book or not is_answers(form, answers):
        return False
    if not isinstance(found, tuple) or not all([is_filling(form, filling) for filling in found]):
        return False
    return are_together(form, answers, found, most) and derivation_holds(form, answers, derivation)


def are_together(form, answers, found, most):
    """Whether any so many of the answers, or fewer, are had together by one of the fillings."""
    # A set of fillings is told by a sum of powers of two, one for each.
    power = 1
    having = {pair: 0 for pair in answers}
    for filling in found:
        for pair in zip(form.fields, filling):
            if pair in having:
                having[pair] = having[pair] + power
        power = power * 2
    shared = [power - 1]
    for _ in range(min(most, len(answers))):
        shared = sorted(set([some & having[pair] for some in shared for pair in answers]))
    return 0 not in shared
