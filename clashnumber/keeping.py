"""Votes and choices that keep a book: one is looked for as a filling of a form that says what it must be.

The form has a field for each argument, and rules for rows of a table whose votes, or choices, must be a row, too. Only
such rules are put into it as some vote, or choice, was found to break: few of all rules are needed.
"""

from clashnumber.basics import LETTERS, all_rows, ascending, nonempty_sets
from clashnumber.forms import Form
from clashnumber.operations import Choice, Vote, winner
from clashnumber.searches import Search


def vote_keeping(book, count):
    """A vote of count that keeps the book and None, or None and a proof that there is none."""
    name_of = names_of(all_rows([book.domain] * count))
    answers = [(name, winner(some)) for some, name in name_of.items() if winner(some) is not None]
    rules = []
    while True:
        results, proof = results_by(book, name_of, rules, answers)
        if proof is not None:
            return None, proof
        vote = Vote(book.domain, count, results)
        broken = broken_by(vote, book)
        if broken == []:
            return vote, None
        rules.extend([(name, tuple([name_of[column] for column in zip(*rows)])) for name, rows in broken])


def choice_keeping(book):
    """A choice that keeps the book and None, or None and a proof that there is none."""
    name_of = names_of(nonempty_sets(book.domain))
    answers = [(name, some[0]) for some, name in name_of.items() if len(some) == 1]
    rules = []
    while True:
        results, proof = results_by(book, name_of, rules, answers)
        if proof is not None:
            return None, proof
        choice = Choice(book.domain, results)
        broken = broken_by(choice, book)
        if broken == []:
            return choice, None
        rules.extend([(name, tuple([name_of[ascending(column)] for column in zip(*rows)])) for name, rows in broken])


def results_by(book, name_of, rules, answers):
    """The results that these rules and answers leave for the arguments, and None, or None and a proof."""
    return Search(Form(book, tuple(name_of.values()), *rules)).outcome(answers)


def broken_by(operation, book):
    """The names of the tables that a vote or a choice does not keep, each with rows that show it."""
    found = [(name, operation.broken(table)) for name, table in book.tables]
    return [(name, broken[0]) for name, broken in found if broken is not None]


def names_of(arguments):
    """A field for each of these arguments; the fields ascend as the arguments are in order."""
    letters = len(LETTERS)
    return {some: LETTERS[at // letters] + LETTERS[at % letters] for at, some in enumerate(arguments)}


def number_of(book):
    """The clash number of a book, or None if it is not known."""
    tables = [table for _, table in book.tables]
    if all([table.is_full or len(table) == 0 for table in tables]):
        return 0
    if all([table.is_product for table in tables]):
        return 1
    if vote_keeping(book, 3)[0] is not None:
        return 2
    if len(book.domain) < 3 and vote_keeping(book, 4)[0] is not None:
        return 3
    return None
