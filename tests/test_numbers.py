"""Points 3, 10 and 11: the clash number of a book, votes that keep it, and worst forms."""

import random
import unittest
from itertools import product

from brute import (
    BELOW, BOOKS, COLOURS, HORN, HORNS, NEXT, NOTALL, ODDS, ORDER, PARITY, SOME, TRIO, UNLIKE, all_least_clashes, all_votes,
    is_worst, number_tried, put_otherwise, some_book, some_form, tree, vote_keeps,
)
from clashnumber.books import Book
from clashnumber.clashes import least_clash
from clashnumber.errors import NoBound
from clashnumber.forms import Form
from clashnumber.numbers import clash_number, examine, worst_holds
from clashnumber.operations import Vote
from clashnumber.tables import Table
from samples import BITS, COAT, EITHER, MOST, NOTBOTH, OBJECTS, PAIRS, STRANGE, THIRTY, TRIT, Checks, nested, state

DUO = Form(PAIRS, ("x", "y"), ("either", ("x", "y")))
CLASH = (("x", "no"), ("y", "no"))
STEP = (CLASH, ("rule", 0))
RIGHT = (DUO, CLASH, (("no", "yes"), ("yes", "no")), (STEP,))


def whole_worst_form(book, most):
    """The worst form that point 11 describes, with all its fields and rules."""
    arguments = list(product(book.domain, repeat=most + 1))
    names = [letter + other for letter in "abc" for other in "abcdefghijklmnopqrstuvwxyz"][:len(arguments)]
    name_of = dict(zip(arguments, names))
    rules = []
    for name in book:
        for rows in product(book[name].rows, repeat=most + 1):
            rules.append((name, tuple(name_of[column] for column in zip(*rows))))
    form = Form(book, tuple(names), *rules)
    answers = []
    for some in arguments:
        answers.extend((name_of[some], value) for value in book.domain if some.count(value) >= most)
    found = tuple(tuple(some[place] for some in arguments) for place in range(most + 1))
    return form, tuple(answers), found, tree(form, tuple(answers))


def four_colours():
    """A worst form for 3 over a book of three values: two hidden neighbours, each with two answered ones."""
    edges = (("h", "i"), ("h", "a"), ("h", "b"), ("i", "c"), ("i", "d"))
    form = Form(COLOURS, ("a", "b", "c", "d", "h", "i"), *[("unlike", edge) for edge in edges], hidden=("h", "i"))
    answers = (("a", "a"), ("b", "b"), ("c", "a"), ("d", "b"))
    _, found, derivation = least_clash(form, answers)
    return form, answers, found, derivation


class NumberTests(Checks, unittest.TestCase):
    def test_the_examples(self):
        self.assertEqual([clash_number(PAIRS), clash_number(Book(BITS)), examine(PAIRS, 2)[1] == MOST], [2, 0, True])
        self.assertEqual([clash_number(TRIO), examine(TRIO, 2)[0]], [3, "more"])
        self.assertEqual(clash_number(book=PAIRS), 2)

    def test_known_books(self):
        for book, number, _ in BOOKS:
            self.assertEqual(self.unchanged(book, clash_number, book), number, book.text)
            self.assertIs(clash_number(book).__class__, number.__class__)
            self.assertEqual(number_tried(book), number, book.text)

    def test_held_against_all_votes(self):
        source = random.Random(1)
        for at in range(120):
            book = some_book(source, (BITS, BITS, TRIT, ("x",))[at % 4])
            self.assertEqual(clash_number(book), number_tried(book), book.text)

    def test_never_less_than_a_least_clash_has(self):
        source = random.Random(2)
        for book, number, _ in BOOKS:
            for _ in range(12):
                form = some_form(source, book, 4)
                sizes = [len(clash) for clash in all_least_clashes(form)]
                self.assertTrue(number is None or not sizes or max(sizes) <= number)

    def test_three_is_not_known_of_three_values(self):
        only = Book(TRIT, (("notall", Table(TRIT, 3, tuple(row for row in product("ab", repeat=3) if row != ("b",) * 3))),))
        self.assertIs(clash_number(only), None)
        self.assertEqual(clash_number(Book(BITS, (("notall", NOTALL),))), 3)

    def test_parts_of_a_book(self):
        whole = Book(BITS, (("either", EITHER), ("horn", HORN), ("none", Table(BITS, 3)), ("notall", NOTALL)))
        numbers = [clash_number(whole.only(*names)) for names in ((), ("none",), ("either", "none"), ("notall",), whole.names)]
        self.assertEqual(numbers, [0, 0, 2, 3, None])


class ExamineTests(Checks, unittest.TestCase):
    def check(self, book, most, number):
        """What examine returns, for a book of this clash number."""
        told = self.unchanged(book, examine, book, most)
        self.assertIs(told.__class__, tuple)
        word, thing = told
        self.assertEqual(word, "at most" if number is not None and number <= most else "more")
        if word == "more":
            self.assertTrue(is_worst(book, most, thing), book.text)
            self.assertIs(worst_holds(book, most, thing), True)
        elif most < 2:
            self.assertIs(thing, None)
        else:
            self.assertIs(thing.__class__, Vote)
            self.assertEqual([thing.domain, thing.count], [book.domain, most + 1])
            self.assertTrue(vote_keeps(book.domain, most + 1, thing.results, book))

    def test_known_books(self):
        for book, number, _ in BOOKS:
            for most in range(4 if len(book.domain) < 3 else 3):
                self.check(book, most, number)

    def test_other_books(self):
        source = random.Random(3)
        for at in range(120):
            book = some_book(source, (BITS, BITS, TRIT, ("x",))[at % 4])
            for most in range(4 if len(book.domain) < 3 else 3):
                self.check(book, most, number_tried(book))

    def test_by_name(self):
        self.assertEqual(examine(most=2, book=PAIRS), ("at most", MOST))
        self.assertEqual(examine(most=0, book=Book(BITS)), ("at most", None))

    def test_a_vote_of_one_value(self):
        for most in (2, 3):
            book = Book(("x",), (("all", Table.full(("x",), 2)), ("none", Table(("x",), 3))))
            self.assertEqual(examine(book, most), ("at most", Vote(("x",), most + 1, ("x",))))

    def test_tables_of_eight_rows(self):
        source = random.Random(4)
        for at in range(40):
            domain = TRIT if at % 4 else BITS
            rows = list(product(domain, repeat=3))
            many = 8 if at % 4 else 7
            tables = tuple((name, Table(domain, 3, tuple(source.sample(rows, many)))) for name in "abcd")
            book = Book(domain, tables)
            for most in range(3 if at % 4 else 4):
                word, thing = examine(book, most)
                if word == "more":
                    self.assertIs(worst_holds(book, most, thing), True)
                elif most > 1:
                    self.assertIs(thing.keeps_book(book), True)

    def test_tables_of_eight_rows_that_a_vote_keeps(self):
        source = random.Random(5)
        corners = tuple(product(("a", "c"), repeat=3))
        book = Book(TRIT, tuple((name, Table(TRIT, 3, corners)) for name in "abcd"))
        self.assertEqual(clash_number(book), 1)
        middle = Vote.middle(TRIT)
        for _ in range(20):
            tables = []
            while len(tables) < 4:
                table = Table(TRIT, 3, tuple(source.sample(list(product(TRIT, repeat=3)), 3)))
                broken = middle.broken(table)
                while broken and len(table) < 8:
                    table = table | Table(TRIT, 3, (broken[1],))
                    broken = middle.broken(table)
                tables.extend([] if broken else [("abcd"[len(tables)], table)])
            book = Book(TRIT, tuple(tables))
            word, vote = examine(book, 2)
            self.assertEqual(word, "at most")
            self.assertIs(vote.keeps_book(book), True)

    def test_no_bound(self):
        wrong = [thing for thing in STRANGE + OBJECTS if thing is False or thing != 0] + [
            5, -4, "2", (2,), [2], {2: 2}, 10 ** 40 - 1, ((),), nested(40),
        ]
        for book in (PAIRS, Book(("x",)), COLOURS, TRIO):
            for thing in wrong:
                self.fails(NoBound, {"number": thing}, examine, book, thing)
                self.fails(NoBound, {"number": thing}, examine, most=thing, book=book)
        for book in (Book(TRIT), COLOURS, Book(TRIT, (("next", NEXT),))):
            self.fails(NoBound, {"number": 3}, examine, book, 3)
            self.fails(NoBound, {"number": 3}, examine, most=3, book=book)


class WorstTests(Checks, unittest.TestCase):
    def holds(self, book, most, thing, right=True):
        self.assertIs(self.unchanged([book, thing], worst_holds, book, most, thing), right)

    def test_the_example(self):
        self.holds(PAIRS, 1, RIGHT)
        self.assertIs(worst_holds(thing=RIGHT, most=1, book=PAIRS), True)
        self.holds(PAIRS, 0, RIGHT)
        self.holds(PAIRS, 2, RIGHT, False)
        self.holds(PAIRS, 3, RIGHT, False)

    def test_the_whole_form_of_the_point(self):
        books = ((TRIO, 2), (HORNS, 2), (HORNS, 3), (ODDS, 2), (ODDS, 3), (COLOURS, 2))
        mixed = Book(BITS, (("notall", NOTALL), ("some", SOME)))
        for book, most in books + ((mixed, 2), (mixed, 3)):
            thing = whole_worst_form(book, most)
            self.holds(book, most, thing)
            self.holds(book, most - 1, thing)
            self.holds(book, most, (thing[0], thing[1][1:]) + thing[2:], is_worst(book, most, (thing[0], thing[1][1:]) + thing[2:]))
            for at in range(most + 1):
                fewer = thing[2][:at] + thing[2][at + 1:]
                self.holds(book, most, thing[:2] + (fewer,) + thing[3:], False)

    def test_three_of_three_values(self):
        thing = four_colours()
        for most in range(4):
            self.holds(COLOURS, most, thing)
        for at in range(4):
            found = thing[2][:at] + thing[2][at + 1:]
            self.holds(COLOURS, 3, thing[:2] + (found,) + thing[3:], False)
            self.holds(COLOURS, 2, thing[:2] + (found,) + thing[3:], is_worst(COLOURS, 2, thing[:2] + (found,) + thing[3:]))
        self.holds(COLOURS, 3, thing[:2] + (thing[2][:3],) + thing[3:], False)
        self.holds(PAIRS, 3, thing, False)

    def test_any_fillings_in_any_order(self):
        found = RIGHT[2]
        for some in (found[::-1], found * 3, found + (("yes", "yes"),), (("yes", "yes"),) + found, found * 5000):
            self.holds(PAIRS, 1, (DUO, CLASH, some, (STEP,)))
        for some in ((), found[:1], found[1:], (("yes", "yes"),), found + (("no", "no"),), found + (("no",),), list(found)):
            self.holds(PAIRS, 1, (DUO, CLASH, some, (STEP,)), False)

    def test_zero(self):
        for found in ((("no", "yes"),), (("yes", "yes"),), (("yes", "no"), ("yes", "no"))):
            self.holds(PAIRS, 0, (DUO, CLASH, found, (STEP,)))
        self.holds(PAIRS, 0, (DUO, CLASH, (), (STEP,)), False)
        never = Book(BITS, (("never", Table(BITS, 1)),))
        form = Form(never, ("x",), ("never", ("x",)))
        for most in range(4):
            self.holds(never, most, (form, (), (), (((), ("rule", 0)),)), False)
            self.holds(never, most, (form, (("x", "no"),), (), (((), ("rule", 0)),)), False)
            self.holds(PAIRS, most, (Form(PAIRS, ()), (), ((),), ()), False)

    def test_more_answers_and_hidden_fields(self):
        form = Form(PAIRS, ("h", "x", "y", "z"), ("either", ("x", "y")), hidden=("h",))
        answers = CLASH + (("z", "no"),)
        found = (("no", "no", "yes", "no"), ("no", "yes", "no", "no"))
        self.holds(PAIRS, 1, (form, CLASH, found, (STEP,)))
        self.holds(PAIRS, 1, (form, answers, found, (STEP,)))
        self.holds(PAIRS, 1, (form, answers, (("no", "no", "yes", "yes"), found[1]), (STEP,)))
        self.holds(PAIRS, 1, (form, answers, tuple(some[:3] + ("yes",) for some in found), (STEP,)), False)
        self.holds(PAIRS, 1, (form.hiding("x"), CLASH, found, (STEP,)), False)
        self.holds(PAIRS, 1, (form, (("h", "no"),) + CLASH, found, (STEP,)), False)

    def test_over_an_equal_book(self):
        again = Book(BITS, (("notboth", NOTBOTH), ("either", EITHER)))
        self.holds(again, 1, RIGHT)
        self.holds(PAIRS, 1, (Form(again, ("x", "y"), ("either", ("x", "y"))),) + RIGHT[1:])
        self.holds(PAIRS.only("either"), 1, RIGHT, False)
        self.holds(PAIRS.with_table("more", EITHER), 1, RIGHT, False)
        small = Form(PAIRS.only("either"), ("x", "y"), ("either", ("x", "y")))
        self.holds(PAIRS, 1, (small,) + RIGHT[1:], False)
        self.holds(PAIRS.only("either"), 1, (small,) + RIGHT[1:])

    def test_one_part_put_otherwise(self):
        below = Book(TRIT, (("below", BELOW), ("order", ORDER)))
        three = Book(BITS, (("notall", NOTALL), ("odd", PARITY)))
        right = wrong = 0
        for book, most in ((PAIRS, 1), (PAIRS, 0), (below, 1), (TRIO, 2), (three, 2)):
            thing = RIGHT if (book, most) == (PAIRS, 1) else examine(book, most)[1]
            self.holds(book, most, thing)
            for other in put_otherwise(thing):
                told = worst_holds(book, most, other)
                self.assertIs(told, is_worst(book, most, other), repr(other))
                right, wrong = right + told, wrong + (not told)
        self.assertGreater(right, 20)
        self.assertGreater(wrong, 3000)

    def test_other_values(self):
        wrong = STRANGE + OBJECTS + (nested(40), list(RIGHT), (RIGHT,), RIGHT[:3], RIGHT + (None,), RIGHT[1:], {0: RIGHT})
        for thing in wrong:
            self.holds(PAIRS, 1, thing, False)
            for at in range(4):
                self.holds(PAIRS, 1, RIGHT[:at] + (thing,) + RIGHT[at + 1:], False)
            self.holds(PAIRS, 1, (DUO, CLASH, RIGHT[2] + (thing,), (STEP,)), False)
        self.holds(PAIRS, 1, (DUO, CLASH, RIGHT[2], ((CLASH, ("rule", False)),)), False)
        self.holds(PAIRS, 1, (COAT,) + RIGHT[1:], False)
        self.holds(PAIRS, 1, (DUO, CLASH[::-1]) + RIGHT[2:], False)

    def test_thirty_fields(self):
        rules = [("either", some) for some in zip(THIRTY[::2], THIRTY[1::2])]
        form = Form(PAIRS, THIRTY, *rules)
        answers = tuple((field, "no") for field in form.fields)
        steps = tuple((answers[2 * at:2 * at + 2], ("rule", at)) for at in range(15))
        one = [tuple("no" if at % 2 == odd else "yes" for at in range(30)) for odd in (0, 1)]
        self.holds(PAIRS, 0, (form, answers, (one[0],), steps))
        self.holds(PAIRS, 1, (form, answers, tuple(one), steps))
        self.holds(PAIRS, 2, (form, answers, tuple(one), steps), False)
        great = Form(ODDS, THIRTY, ("odd", THIRTY[:3]))
        found = tuple(tuple("yes" if at == yes else "no" for at in range(30)) for yes in range(3))
        self.holds(ODDS, 2, (great, answers[:3], found, ((answers[:3], ("rule", 0)),)))
        self.holds(ODDS, 2, (great, answers, found, ((answers[:3], ("rule", 0)),)))
        self.holds(ODDS, 3, (great, answers, found, ((answers[:3], ("rule", 0)),)), False)
        self.holds(ODDS, 2, (great, answers, found[:2], ((answers[:3], ("rule", 0)),)), False)

    def test_all_votes_are_refused_by_the_worst_form(self):
        for results in all_votes(TRIT, 3):
            self.assertFalse(vote_keeps(TRIT, 3, results, Book(TRIT, (("unlike", UNLIKE),))))
        before = state(TRIO)
        self.holds(TRIO, 2, examine(TRIO, 2)[1])
        self.assertEqual(state(TRIO), before)


if __name__ == "__main__":
    unittest.main()
