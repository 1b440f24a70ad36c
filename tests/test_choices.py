"""Points 13 and 14: choices, and what they make of the candidates that narrowing leaves."""

import random
import unittest
from itertools import combinations, permutations, product

from brute import (
    BOOKS, HORN, NEXT, ODDS, UNLIKE, all_answers, all_choices, all_fillings, all_sets, choice_keeps, having, narrowed_tried,
    some_forms,
)
from clashnumber.books import Book
from clashnumber.errors import NoChoice
from clashnumber.forms import Form
from clashnumber.operations import Choice, Vote
from clashnumber.tables import Table
from samples import BITS, COAT, EITHER, LEAST, NOTBOTH, OBJECTS, PAIRS, STRANGE, THIRTY, TRIT, WRONG_DOMAINS, Checks, state

ONE = ("x",)
LAST = Choice(BITS, ("no", "yes", "yes"))


class MadeTests(Checks, unittest.TestCase):
    def test_the_example(self):
        self.assertEqual([LEAST.results, LEAST.broken(EITHER)[1]], [("no", "yes", "no"), ("no", "no")])

    def test_attributes(self):
        for domain, results in ((ONE, ("x",)), (BITS, ("no", "yes", "yes")), (TRIT, ("a", "b", "c", "c", "b", "a", "c"))):
            for choice in (Choice(domain, results), Choice(results=results, domain=domain)):
                self.assertEqual([choice.domain, choice.results], [domain, results])

    def test_all_choices_are_made(self):
        for domain, many in ((ONE, 1), (BITS, 2), (TRIT, 81)):
            found = {Choice(domain, results).results for results in all_choices(domain)}
            self.assertEqual(len(found), many)

    def test_least(self):
        self.assertEqual(Choice.least(ONE).results, ("x",))
        self.assertEqual(Choice.least(TRIT).results, ("a", "b", "c", "a", "a", "b", "a"))
        self.assertEqual(Choice.least(domain=("b", "bb", "c")).results, ("b", "bb", "c", "b", "b", "bb", "b"))

    def test_wrong_domains(self):
        self.refused_each(NoChoice, "domain", lambda thing: Choice(thing, LEAST.results), WRONG_DOMAINS)
        self.refused_each(NoChoice, "domain", lambda thing: Choice(results=(), domain=thing), WRONG_DOMAINS)
        self.refused_each(NoChoice, "domain", lambda thing: Choice(thing, thing), WRONG_DOMAINS)

    def test_wrong_results(self):
        right = LEAST.results
        wrong = STRANGE + OBJECTS + (
            (), list(right), right[1:], right + ("no",), "nny", dict(enumerate(right)), right * 6666, {"no": "no", "yes": "yes"},
        )
        self.refused_each(NoChoice, "results", lambda thing: Choice(BITS, thing), wrong)
        self.refused_each(NoChoice, "results", lambda thing: Choice(results=thing, domain=BITS), wrong)
        for thing in STRANGE + OBJECTS + ("maybe", ("no",), ["no"]):
            for at in range(3):
                self.refused(NoChoice, "results", Choice, BITS, right[:at] + (thing,) + right[at + 1:])
        self.refused(NoChoice, "results", Choice, TRIT, ("a", "b", "c", "a", "a", "a"))
        self.refused(NoChoice, "results", Choice, ONE, ("x", "x"))

    def test_odd(self):
        for domain in (BITS, TRIT):
            for results in product(domain, repeat=len(all_sets(domain))):
                if results[:len(domain)] != domain:
                    with self.assertRaises(NoChoice) as caught:
                        Choice(domain, results)
                    self.assertEqual(caught.exception.word, "odd")
        self.refused(NoChoice, "odd", Choice, BITS, ("yes", "yes", "yes"))
        self.refused(NoChoice, "odd", Choice, results=("yes", "no", "yes"), domain=BITS)

    def test_the_first_of_several_errors(self):
        self.refused(NoChoice, "domain", Choice, ("yes", "no"), ("no", "no"))
        self.refused(NoChoice, "domain", Choice, ("yes", "no"), ("no", "no", "no"))
        self.refused(NoChoice, "results", Choice, BITS, ("yes", "yes", "maybe"))
        self.refused(NoChoice, "results", Choice, BITS, ("yes", "yes"))

    def test_equal(self):
        self.assertIs(LEAST == Choice(BITS, ("no", "yes", "no")), True)
        self.assertIs(LEAST != Choice(BITS, ("no", "yes", "no")), False)
        choices = [Choice(TRIT, results) for results in all_choices(TRIT)]
        self.assertTrue(all((one == other) == (one is other) for one in choices for other in choices))
        for other in (LAST, Choice.least(TRIT), Choice.least(("no", "yet")), Choice.least(ONE)):
            self.assertNotEqual(LEAST, other)
        self.not_equal_to_others(LEAST)
        self.assertFalse(Choice(ONE, ("x",)) == Vote(ONE, 3, ("x",)))


class CalledTests(Checks, unittest.TestCase):
    def test_called(self):
        for domain in (ONE, BITS, TRIT):
            for results in all_choices(domain):
                choice = Choice(domain, results)
                self.assertEqual(tuple(choice(some) for some in all_sets(domain)), results)
        for some in all_sets(TRIT):
            for others in permutations(some):
                self.assertEqual(Choice.least(TRIT)(others), some[0])
                self.assertEqual(Choice.least(TRIT)(some=others + others[::-1]), some[0])
        self.assertEqual(LAST(("no",) * 10000 + ("yes",)), "yes")

    def test_called_wrongly(self):
        wrong = [thing for thing in STRANGE + OBJECTS] + [
            (), ["no"], ("maybe",), ("no", "maybe"), ("no", None), (True,), ("no", ["no"]), "no", {"no": "yes"}, ("no", EITHER),
            (("no",),), ("no", ("no", "yes")), ("no",) * 9999 + ("n",),
        ]
        self.refused_each(NoChoice, "domain", LEAST, wrong)
        self.refused_each(NoChoice, "domain", lambda thing: LAST(some=thing), wrong)


class KeepsTests(Checks, unittest.TestCase):
    def check(self, choice, table):
        """Whether the choice keeps the table, held against all sets of rows."""
        right = choice_keeps(choice.domain, choice.results, Book(choice.domain, (("t", table),)))
        found = self.unchanged([choice, table], choice.broken, table)
        self.assertIs(choice.keeps(table), right)
        self.assertEqual(found is None, right)
        if found is not None:
            self.assertIs(found.__class__, tuple)
            rows, row = found
            self.assertIs(rows.__class__, tuple)
            self.assertEqual(rows, tuple(sorted(set(rows))))
            self.assertTrue(rows and all(each in table for each in rows))
            self.assertEqual(row, tuple(choice(tuple(each[place] for each in rows)) for place in range(table.width)))
            self.assertNotIn(row, table)

    def test_all_tables_of_two_values(self):
        for width in (1, 2, 3):
            rows = list(product(BITS, repeat=width))
            for many in range(len(rows) + 1):
                for some in combinations(rows, many):
                    self.check(LEAST, Table(BITS, width, some))
                    self.check(LAST, Table(BITS, width, some))

    def test_three_values(self):
        source = random.Random(1)
        choices = [Choice(TRIT, results) for results in all_choices(TRIT)]
        for choice in choices:
            for table in (NEXT, UNLIKE, ~NEXT, Table(TRIT, 2)):
                self.check(choice, table)
        for _ in range(300):
            width = source.choice((1, 2, 3))
            rows = list(product(TRIT, repeat=width))
            table = Table(TRIT, width, tuple(source.sample(rows, source.randint(0, min(6, len(rows))))))
            self.check(source.choice(choices), table)

    def test_a_value_that_is_not_in_the_set(self):
        choice = Choice(TRIT, ("a", "b", "c", "c", "a", "c", "c"))
        self.assertEqual(choice(("b", "a")), "c")
        self.assertIs(choice.keeps(Table(TRIT, 1, (("a",), ("b",)))), False)
        self.assertEqual(choice.broken(Table(TRIT, 1, (("a",), ("b",)))), ((("a",), ("b",)), ("c",)))
        self.assertIs(choice.keeps(Table(TRIT, 1, (("a",), ("b",), ("c",)))), True)

    def test_one_value_and_no_rows(self):
        choice = Choice(ONE, ("x",))
        for width in (1, 2, 3):
            self.check(choice, Table(ONE, width))
            self.check(choice, Table.full(ONE, width))
            self.check(LAST, Table(BITS, width))

    def test_keeps_book(self):
        for book, _, _ in BOOKS:
            for at, results in enumerate(all_choices(book.domain)):
                if at % 9 == 0:
                    choice = Choice(book.domain, results)
                    right = choice_keeps(book.domain, results, book)
                    self.assertIs(self.unchanged([choice, book], choice.keeps_book, book), right)
        self.assertIs(LEAST.keeps_book(book=PAIRS), False)
        self.assertIs(LEAST.keeps_book(PAIRS.only("notboth")), True)
        self.assertIs(LAST.keeps_book(PAIRS.only("notboth")), False)
        self.assertEqual([LAST.keeps(table=EITHER), LAST.broken(table=EITHER)], [True, None])


class FillingTests(Checks, unittest.TestCase):
    def test_held_against_narrowing(self):
        source = random.Random(2)
        for form in some_forms(3, 150):
            choices = [Choice(form.book.domain, results) for results in all_choices(form.book.domain)]
            some = all_answers(form)
            for answers in [()] + source.sample(some, min(6, len(some))):
                left = narrowed_tried(form, answers)
                choice = source.choice(choices)
                right = None if () in left else tuple(choice(values) for values in left)
                self.assertEqual(self.unchanged([choice, form, answers], choice.filling, form, answers), right)
                if answers == ():
                    self.assertEqual(choice.filling(form), right)
                self.assertEqual(choice.filling(answers=answers, form=form), right)

    def test_exact_if_it_keeps_the_book(self):
        for form in some_forms(4, 150):
            for results in all_choices(form.book.domain):
                choice = Choice(form.book.domain, results)
                if choice.keeps_book(form.book):
                    found = all_fillings(form)
                    for answers in all_answers(form)[::5]:
                        right = having(form, found, answers)
                        filling = choice.filling(form, answers)
                        self.assertEqual(filling is None, right == [])
                        self.assertTrue(filling is None or filling in right)

    def test_need_not_be_a_filling(self):
        self.assertEqual(LEAST.filling(COAT), ("no", "no", "no"))
        self.assertEqual(LAST.filling(COAT), ("yes", "yes", "yes"))
        self.assertEqual(LEAST.filling(COAT, (("a", "no"),)), ("no", "yes", "no"))
        self.assertIs(LEAST.filling(COAT, (("a", "no"), ("c", "yes"))), None)

    def test_each_place_is_looked_at_alone(self):
        unlike = Book(BITS, (("unlike", EITHER & NOTBOTH),))
        form = Form(unlike, ("a", "b"), ("unlike", ("a", "a")), ("unlike", ("a", "b")))
        self.assertEqual(LEAST.filling(form), ("no", "no"))
        self.assertEqual(LAST.filling(form), ("yes", "yes"))
        self.assertIs(LAST.filling(form, (("a", "no"),)), None)

    def test_nothing_left_anywhere(self):
        never = Book(BITS, (("is", Table(BITS, 1, (("yes",),))), ("never", Table(BITS, 1))))
        form = Form(never, ("a", "b"), ("never", ("a",)))
        self.assertIs(LEAST.filling(form), None)
        self.assertEqual(LEAST.filling(Form(never, ("a", "b"), ("is", ("a",)))), ("yes", "no"))
        self.assertEqual(LEAST.filling(Form(never, ())), ())
        self.assertEqual(Choice(ONE, ("x",)).filling(Form(Book(ONE), ("a", "b"))), ("x", "x"))

    def test_many_fields(self):
        horn = Book(BITS, (("horn", HORN), ("is", Table(BITS, 1, (("yes",),)))))
        rules = tuple(("horn", some) for some in zip(THIRTY, THIRTY[1:], THIRTY[2:]))
        form = Form(horn, THIRTY, *rules, ("is", THIRTY[:1]))
        self.assertEqual(LEAST.filling(form), ("yes",) + ("no",) * 29)
        self.assertEqual(LEAST.filling(form, ((THIRTY[1], "yes"),)), ("yes",) * 30)
        self.assertIs(LEAST.filling(form, ((THIRTY[1], "yes"), (THIRTY[29], "no"))), None)
        parity = Form(ODDS, THIRTY, *[("odd", some) for some in zip(THIRTY, THIRTY[1:], THIRTY[2:])])
        self.assertEqual(LAST.filling(parity), ("yes",) * 30)
        before = state(form)
        LEAST.filling(form)
        self.assertEqual(state(form), before)


if __name__ == "__main__":
    unittest.main()
