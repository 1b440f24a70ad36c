"""Points 13 and 14: narrowing, when it is exact, and blind forms."""

import random
import unittest
from itertools import combinations, product

from brute import (
    BOOKS, COLOURS, HORNS, NEXT, ODDS, TRIO, all_answers, all_choices, all_fillings, all_sets, choice_keeps,
    having, is_blind, is_derivation, narrowed_tried, put_otherwise, some_book, some_forms, tree,
)
from clashnumber.books import Book
from clashnumber.forms import Form
from clashnumber.narrowing import blind_holds, examine_narrowing, narrowed
from clashnumber.operations import Choice
from clashnumber.standing import standing
from clashnumber.tables import Table
from samples import BITS, COAT, EITHER, NOTBOTH, OBJECTS, PAIRS, STRANGE, THIRTY, TRIT, Checks, nested

ODD = Form(PAIRS, ("x",), ("either", ("x", "x")), ("notboth", ("x", "x")))
STEPS = (((("x", "no"),), ("rule", 0)), ((("x", "yes"),), ("rule", 1)), ((), ("field", "x", (0, 1))))
RIGHT = (ODD, (), STEPS)
NEVER = Book(BITS, (("either", EITHER), ("never", Table(BITS, 2)), ("no", Table(BITS, 1, (("no",),)))))


def whole_blind_form(book):
    """The blind form that point 14 describes, with all its fields and rules."""
    name_of = {some: "".join(value[0] for value in some) for some in all_sets(book.domain)}
    rules = []
    for name in book:
        for rows in all_sets(book[name].rows):
            rules.append((name, tuple(name_of[tuple(sorted(set(column)))] for column in zip(*rows))))
    form = Form(book, tuple(name_of.values()), *rules)
    answers = tuple(sorted((name_of[value,], value) for value in book.domain))
    return form, answers, tree(form, answers)


class NarrowedTests(Checks, unittest.TestCase):
    def check(self, form, answers):
        """What narrowed returns, held against looking at everything again and again."""
        found = self.unchanged([form, answers], narrowed, form, answers)
        self.assertEqual(found, narrowed_tried(form, answers), form.text)
        self.assertIs(found.__class__, tuple)
        self.assertTrue(all(each.__class__ is tuple for each in found))
        return found

    def test_the_examples(self):
        self.assertEqual(narrowed(COAT), (BITS, BITS, BITS))
        self.assertEqual(narrowed(COAT, (("a", "no"),)), (("no",), ("yes",), ("no",)))
        self.assertEqual(narrowed(answers=(("a", "no"),), form=COAT), (("no",), ("yes",), ("no",)))

    def test_all_answers_of_small_forms(self):
        for form in some_forms(21, 200):
            found = all_fillings(form)
            for answers in all_answers(form):
                left = self.check(form, answers)
                # No value that a filling has is removed.
                for some in having(form, found, answers):
                    self.assertTrue(all(value in values for value, values in zip(some, left)))

    def test_each_place_is_looked_at_alone(self):
        self.assertEqual(narrowed(ODD), (BITS,))
        self.assertEqual(standing(ODD)[0], "clashes")
        self.assertEqual(narrowed(ODD, (("x", "no"),)), ((),))
        self.assertEqual(narrowed(Form(COLOURS, ("x",), ("unlike", ("x", "x")))), (TRIT,))

    def test_edges(self):
        self.assertEqual([narrowed(Form(PAIRS, ())), narrowed(Form(PAIRS, ()), ())], [(), ()])
        self.assertEqual(narrowed(Form(Book(("x",)), ("a", "b"))), (("x",), ("x",)))
        self.assertEqual(narrowed(Form(TRIO, ("a", "b"), hidden=("a",)), (("b", "yes"),)), (BITS, ("yes",)))
        never = Form(NEVER, ("a", "b", "c"), ("never", ("a", "b")))
        self.assertEqual(narrowed(never), ((), (), BITS))
        self.assertEqual(narrowed(Form(NEVER, ("a", "b"), ("no", ("a",)), ("either", ("a", "b")))), (("no",), ("yes",)))
        self.assertEqual(narrowed(Form(NEVER, ("a", "b"), ("no", ("a",)), hidden=("a",)), (("b", "no"),)), (("no",), ("no",)))
        self.assertEqual(narrowed(Form(NEVER, ("a",), ("no", ("a",))), (("a", "yes"),)), ((),))

    def test_without_limits(self):
        source = random.Random(22)
        for book, _, _ in BOOKS:
            rules = []
            for _ in range(300 if book.names else 0):
                name = source.choice(book.names)
                rules.append((name, tuple(source.choice(THIRTY) for _ in range(book[name].width))))
            for many in (20, 40, 300):
                form = Form(book, THIRTY, *rules[:many], hidden=THIRTY[:3])
                self.check(form, tuple((field, source.choice(book.domain)) for field in form.shown if source.random() < 0.1))

    def test_a_long_way(self):
        rules = [("next", pair) for pair in zip(THIRTY, THIRTY[1:])]
        for some in (rules, rules[::-1]):
            left = narrowed(Form(Book(TRIT, (("next", NEXT),)), THIRTY, *some), ((THIRTY[0], "b"),))
            self.assertEqual(left, tuple(("bca"[at % 3],) for at in range(30)))


class ExamineTests(Checks, unittest.TestCase):
    def check(self, book, exact):
        """What examine_narrowing returns."""
        told = self.unchanged(book, examine_narrowing, book)
        self.assertIs(told.__class__, tuple)
        word, thing = told
        self.assertEqual(word, "exact" if exact else "blind", book.text)
        if exact:
            self.assertIs(thing.__class__, Choice)
            self.assertEqual(thing.domain, book.domain)
            self.assertTrue(choice_keeps(book.domain, thing.results, book))
            self.assertIs(thing.keeps_book(book), True)
        else:
            self.assertTrue(is_blind(book, thing), book.text)
            self.assertIs(blind_holds(book, thing), True)
        return thing

    def test_the_examples(self):
        self.assertEqual([examine_narrowing(TRIO)[0], examine_narrowing(book=PAIRS)[0]], ["exact", "blind"])

    def test_known_books(self):
        for book, _, exact in BOOKS:
            self.check(book, exact)

    def test_held_against_all_choices(self):
        source = random.Random(23)
        for at in range(160):
            book = some_book(source, (BITS, BITS, TRIT, ("x",))[at % 4])
            self.check(book, any(choice_keeps(book.domain, results, book) for results in all_choices(book.domain)))

    def test_tables_of_eight_rows(self):
        source = random.Random(24)
        exact = 0
        for _ in range(30):
            rows = list(product(TRIT, repeat=3))
            book = Book(TRIT, tuple((name, Table(TRIT, 3, tuple(source.sample(rows, 8)))) for name in "abcd"))
            word, thing = examine_narrowing(book)
            exact += word == "exact"
            self.assertTrue(word == "exact" or is_blind(book, thing))
            corners = Book(TRIT, (("box", Table.product(TRIT, ("a", "c"), ("a", "b"), ("b", "c"))),) + book.tables[:1])
            self.check(corners, any(choice_keeps(TRIT, some, corners) for some in all_choices(TRIT)))
        self.assertLess(exact, 30)

    def test_an_exact_choice_makes_the_filling(self):
        source = random.Random(25)
        for form in some_forms(25, 200):
            word, thing = examine_narrowing(form.book)
            found = all_fillings(form)
            for answers in source.sample(all_answers(form), min(12, len(all_answers(form)))):
                left = narrowed(form, answers)
                if word == "exact":
                    self.assertEqual(() not in left, having(form, found, answers) != [])
                    self.assertEqual(thing.filling(form, answers) in having(form, found, answers), () not in left)

    def test_a_blind_form_shows_that_narrowing_is_not_exact(self):
        for book, _, exact in BOOKS:
            if not exact:
                form, answers, derivation = examine_narrowing(book)[1]
                self.assertNotIn((), narrowed(form, answers))
                self.assertEqual(having(form, all_fillings(form), answers), [])
                self.assertTrue(is_derivation(form, answers, derivation))


class BlindTests(Checks, unittest.TestCase):
    def holds(self, book, thing, right=True):
        self.assertIs(self.unchanged([book, thing], blind_holds, book, thing), right)

    def test_the_example(self):
        self.holds(PAIRS, RIGHT)
        self.assertIs(blind_holds(thing=RIGHT, book=PAIRS), True)

    def test_the_whole_form_of_the_point(self):
        for book, _, exact in BOOKS:
            if not exact:
                form, answers, derivation = whole_blind_form(book)
                self.holds(book, (form, answers, derivation))
                self.holds(book, (form, answers[1:], derivation), is_blind(book, (form, answers[1:], derivation)))
                self.holds(book, (form, answers, derivation[:-1]), is_derivation(form, answers, derivation[:-1]))

    def test_more_fields_answers_and_steps(self):
        form = Form(PAIRS, ("h", "x", "y"), *ODD.rules, ("either", ("x", "y")), hidden=("h",))
        steps = (((("x", "no"),), ("rule", 0)), ((("x", "yes"),), ("rule", 2)), ((), ("field", "x", (0, 1))))
        self.holds(PAIRS, (form, (), steps))
        self.holds(PAIRS, (form, (("y", "yes"),), steps))
        self.holds(PAIRS, (form.hiding("x", "y"), (), steps))
        self.holds(PAIRS, (form, (), steps * 2))
        self.holds(PAIRS, (form, (), steps + (steps[0],)))
        self.holds(PAIRS, (form, (), steps[::-1]), False)
        self.holds(PAIRS, (form, (), (steps[0],) + steps[:2] + (((), ("field", "x", (1, 2))),)))
        # The answer leaves x without a candidate: narrowing sees the clash.
        self.holds(PAIRS, (form, (("y", "no"),), steps), False)
        self.holds(PAIRS, (form, (("x", "no"),), steps), False)
        self.holds(PAIRS, (form, (("h", "no"),), steps), False)
        self.holds(PAIRS, (COAT, (("a", "no"), ("c", "yes")), standing(COAT, (("a", "no"), ("c", "yes")))[1]), False)

    def test_books_that_a_choice_keeps_have_none(self):
        for book, _, exact in BOOKS:
            if exact and book.names:
                for form in [form for form in some_forms(26, 84) if form.book == book]:
                    for answers in all_answers(form):
                        word, thing = standing(form, answers)
                        self.assertTrue(word == "stands" or not blind_holds(book, (form, answers, thing)))

    def test_over_an_equal_book(self):
        again = Book(BITS, (("notboth", NOTBOTH), ("either", EITHER)))
        self.holds(again, RIGHT)
        self.holds(PAIRS, (Form(again, ("x",), *ODD.rules), (), STEPS))
        self.holds(PAIRS.only("either"), RIGHT, False)
        self.holds(PAIRS.with_table("more", EITHER), RIGHT, False)
        self.holds(Book(BITS, (("either", NOTBOTH), ("notboth", EITHER))), RIGHT, False)
        more = PAIRS.with_table("a", Table(BITS, 1))
        self.holds(more, (Form(more, ("x",), *ODD.rules), (), STEPS))
        self.holds(PAIRS, (Form(more, ("x",), *ODD.rules), (), STEPS), False)

    def test_one_part_put_otherwise(self):
        right = wrong = 0
        things = [(book, examine_narrowing(book)[1]) for book in (PAIRS, ODDS, COLOURS, Book(TRIT, (("next", NEXT),)))]
        for book, thing in things + [(PAIRS, RIGHT)]:
            self.holds(book, thing)
            for other in put_otherwise(thing):
                told = blind_holds(book, other)
                self.assertIs(told, is_blind(book, other), repr(other))
                right, wrong = right + told, wrong + (not told)
        self.assertGreater(right, 8)
        self.assertGreater(wrong, 2500)

    def test_other_values(self):
        wrong = STRANGE + OBJECTS + (nested(40), list(RIGHT), (RIGHT,), RIGHT[:2], RIGHT + (None,), {0: RIGHT}, RIGHT[::-1])
        for thing in wrong:
            self.holds(PAIRS, thing, False)
            for at in range(3):
                other = RIGHT[:at] + (thing,) + RIGHT[at + 1:]
                self.holds(PAIRS, other, is_blind(PAIRS, other))
            self.holds(PAIRS, (ODD, (), STEPS + (thing,)), False)
            self.holds(PAIRS, (ODD, (), STEPS[:2] + (((), ("field", "x", thing)),)), False)
        self.holds(PAIRS, (ODD, (), STEPS[:2] + (((), ("field", "x", (False, True))),)), False)
        self.holds(PAIRS, (ODD, (), (((("x", "no"),), ("rule", False)),) + STEPS[1:]), False)
        self.holds(PAIRS, (ODD, (), (STEPS[0], ((("x", "yes"),), ("rule", True)), STEPS[2])), False)
        self.holds(PAIRS, (ODD, [], STEPS), False)
        self.holds(PAIRS, (ODD, (("x", "no"),), STEPS), False)
        self.holds(PAIRS, (ODD, (), ()), False)
        self.holds(PAIRS, (Form(PAIRS, ()), (), ()), False)
        self.holds(PAIRS, (Form(PAIRS, ("x",)), (), ()), False)
        self.holds(HORNS, RIGHT, False)

    def test_thirty_fields(self):
        pairs = list(zip(THIRTY[::2], THIRTY[1::2]))
        rules = [("either", some) for some in pairs] + [("notboth", some) for some in pairs]
        form = Form(PAIRS, THIRTY, ("either", (THIRTY[0],) * 2), ("notboth", (THIRTY[0],) * 2), *rules)
        word, derivation = standing(form)
        self.assertEqual(word, "clashes")
        self.holds(PAIRS, (form, (), derivation))
        answers = tuple((field, "no") for field in THIRTY[2::2])
        self.holds(PAIRS, (form, answers, derivation))
        self.holds(PAIRS, (form, ((THIRTY[1], "no"),) + answers, derivation), False)
        colours = Form(COLOURS, THIRTY, *[("unlike", pair) for pair in combinations(THIRTY[:4], 2)])
        steps = standing(Form(COLOURS, THIRTY[:4], *colours.rules))[1]
        self.holds(COLOURS, (colours, (), steps))


if __name__ == "__main__":
    unittest.main()
