"""Points 3 and 7: least clashes."""

import random
import unittest

from brute import (
    BOOKS, COLOURS, HORNS, NEXT, NOTALL, ODDS, PARITY, SOME, TRIO, all_answers, all_fillings, all_least_clashes, having,
    is_derivation, is_least_clash, put_otherwise, some_forms,
)
from clashnumber.books import Book
from clashnumber.clashes import least_clash, least_clash_holds, least_clashes
from clashnumber.errors import NoClash, TooGreat
from clashnumber.forms import Form, is_filling
from clashnumber.numbers import clash_number, examine
from clashnumber.standing import derivation_holds, is_great, standing
from clashnumber.tables import Table
from samples import BITS, COAT, EITHER, OBJECTS, PAIRS, STRANGE, THIRTY, TRIT, Checks, nested, state

ANSWERS = (("a", "no"), ("c", "yes"))
DERIVATION = (
    ((("a", "no"), ("b", "no")), ("rule", 0)),
    ((("b", "yes"), ("c", "yes")), ("rule", 1)),
    ((("a", "no"), ("c", "yes")), ("field", "b", (0, 1))),
)
RIGHT = (ANSWERS, (("yes", "no", "yes"), ("no", "yes", "no")), DERIVATION)
MIXED = Book(BITS, (
    ("either", EITHER), ("is", Table(BITS, 1, (("yes",),))), ("never", Table(BITS, 2)), ("odd", PARITY),
))
GREAT = (Form(ODDS, THIRTY[:14]), Form(ODDS, THIRTY[:16], ("odd", THIRTY[:3])), Form(COLOURS, THIRTY[:9]))


class LeastClashTests(Checks, unittest.TestCase):
    def check(self, form, answers, clashes):
        """What least_clash returns, held against all least clashes of the form."""
        told = self.unchanged([form, answers], least_clash, form, answers)
        self.assertIs(told.__class__, tuple)
        clash, found, derivation = told
        self.assertIn(clash, clashes)
        self.assertLessEqual(set(clash), set(answers))
        self.assertTrue(is_least_clash(form, told))
        self.assertIs(least_clash_holds(form, told), True)

    def test_an_example(self):
        self.check(COAT, ANSWERS, (ANSWERS,))
        self.assertEqual(least_clash(answers=ANSWERS, form=COAT)[0], ANSWERS)

    def test_all_answers_of_small_forms(self):
        for form in some_forms(1, 120):
            found, clashes = all_fillings(form), all_least_clashes(form)
            for answers in all_answers(form):
                right = having(form, found, answers)
                if not right:
                    self.check(form, answers, clashes)
                    continue
                with self.assertRaises(NoClash) as caught:
                    least_clash(form, answers)
                self.assertIn(caught.exception.found, right)

    def test_without_fillings(self):
        for form in (
            Form(MIXED, ("a", "b"), ("never", ("b", "b"))),
            Form(PAIRS, ("a",), ("either", ("a", "a")), ("notboth", ("a", "a"))),
            Form(MIXED, ("a", "b", "c"), ("is", ("a",)), ("is", ("b",)), ("odd", ("a", "b", "c")), ("never", ("c", "a"))),
            Form(Book(("x",), (("never", Table(("x",), 1)),)), ("a", "b"), ("never", ("b",)), hidden=("b",)),
        ):
            for answers in all_answers(form):
                clash, found, derivation = least_clash(form, answers)
                self.assertEqual([clash, found], [(), ()])
                self.assertTrue(is_derivation(form, (), derivation))
            self.assertEqual(least_clashes(form), ((),))

    def test_one_answer(self):
        form = Form(MIXED, ("a", "b"), ("is", ("a",)), ("either", ("a", "b")))
        self.assertEqual(least_clash(form, (("a", "no"), ("b", "no")))[:2], ((("a", "no"),), (("yes", "no"),)))

    def test_answers_that_stand(self):
        self.fails(NoClash, {"found": ("no", "yes", "no")}, least_clash, COAT, (("a", "no"),))
        self.fails(NoClash, {"found": ("no", "yes", "no")}, least_clash, answers=(("a", "no"),), form=COAT)
        self.fails(NoClash, {"found": ()}, least_clash, Form(PAIRS, ()), ())
        self.fails(NoClash, {"found": ("x",)}, least_clash, Form(Book(("x",)), ("a",)), (("a", "x"),))

    def test_too_great(self):
        for form in GREAT:
            stands, clashes = (), tuple((field, form.book.domain[0]) for field in form.fields[:3])
            for answers in (stands, clashes):
                self.fails(TooGreat, {}, least_clash, form, answers)
                self.fails(TooGreat, {}, least_clash, answers=answers, form=form)

    def test_sixteen_fields_and_sixty_rules(self):
        source = random.Random(2)
        books = [(book, number) for book, number, chosen in BOOKS if (number == 2 or number is None and chosen)]
        for at in range(150):
            book, number = books[at % len(books)]
            fields = THIRTY[:16]
            names = [source.choice(book.names) for _ in range(source.choice((15, 25, 60)))]
            form = Form(book, fields, *[(name, tuple(source.sample(fields, book[name].width))) for name in names])
            answers = tuple((field, source.choice(book.domain)) for field in fields)
            if standing(form, answers)[0] == "clashes":
                told = least_clash(form, answers)
                self.assertTrue(least_clash_holds(form, told))
                self.assertTrue(set(told[0]) <= set(answers))
                self.assertTrue(number is None or len(told[0]) <= number)

    def test_no_more_answers_than_the_clash_number(self):
        for form in some_forms(3, 150):
            number = clash_number(form.book)
            for clash in all_least_clashes(form):
                self.assertTrue(number is None or len(clash) <= number)

    def test_forms_that_are_returned(self):
        for book, number, _ in BOOKS:
            for most in range(3):
                word, thing = examine(book, most)
                if word == "more" and not is_great(thing[0]):
                    told = least_clash(thing[0], thing[1])
                    self.assertGreater(len(told[0]), most)
                    self.assertTrue(is_least_clash(thing[0], told))


class HoldsTests(Checks, unittest.TestCase):
    def holds(self, form, thing, right=True):
        self.assertIs(self.unchanged([form, thing], least_clash_holds, form, thing), right)

    def test_right_ones(self):
        self.holds(COAT, RIGHT)
        self.assertIs(least_clash_holds(thing=RIGHT, form=COAT), True)
        self.holds(COAT, (ANSWERS, (("yes", "yes", "yes"), ("no", "yes", "no")), DERIVATION), False)
        self.holds(COAT, (ANSWERS, RIGHT[1][::-1], DERIVATION), False)
        self.holds(COAT, (ANSWERS, (("yes", "no", "yes"),) * 2, DERIVATION), False)

    def test_any_fillings_will_do(self):
        wide = Form(PAIRS, ("a", "b", "c", "d"), *COAT.rules, hidden=("b",))
        for last in BITS:
            for other in BITS:
                self.holds(wide, (ANSWERS, (("yes", "no", "yes", last), ("no", "yes", "no", other)), DERIVATION))
        self.holds(wide, (ANSWERS, (("yes", "no", "yes"), ("no", "yes", "no")), DERIVATION), False)

    def test_the_empty_one(self):
        form = Form(MIXED, ("a", "b"), ("never", ("a", "b")))
        self.holds(form, ((), (), (((), ("rule", 0)),)))
        self.holds(form, ((), (), ()), False)
        self.holds(form, ((), (("no", "no"),), (((), ("rule", 0)),)), False)
        self.holds(form, ((("a", "no"),), (("yes", "no"),), (((), ("rule", 0)),)), False)
        self.holds(COAT, ((), (), DERIVATION), False)

    def test_clashes_that_are_not_least(self):
        form = COAT.with_rules(("notboth", ("a", "a")))
        clash = (("a", "yes"), ("c", "yes"))
        step = ((("a", "yes"),), ("rule", form.rules.index(("notboth", ("a", "a")))))
        for one in all_fillings(form):
            for other in all_fillings(form):
                self.holds(form, (clash, (one, other), (step,)), False)
        self.holds(form, (clash[:1], (("no", "yes", "no"),), (step,)))

    def test_hidden_fields_are_no_answers(self):
        form = COAT.hiding("a")
        step = ((("a", "no"), ("b", "no")), ("rule", 0))
        found = (("yes", "no", "no"), ("no", "yes", "no"))
        self.holds(COAT, (step[0], found, (step,)), False)
        self.holds(form, (ANSWERS, RIGHT[1], DERIVATION), False)
        self.holds(Form(PAIRS, ("a", "b", "c"), *COAT.rules), (step[0], found, (step,)))

    def test_one_part_put_otherwise(self):
        unlike = Form(Book(TRIT, (("next", NEXT),)), ("x", "y"), ("next", ("x", "y")))
        empty = Form(MIXED, ("a", "b"), ("never", ("a", "b")))
        some = [
            (COAT, RIGHT), (empty, ((), (), (((), ("rule", 0)),))),
            (unlike, least_clash(unlike, (("x", "a"), ("y", "c")))),
        ]
        right = wrong = 0
        for form, thing in some:
            self.holds(form, thing)
            for other in put_otherwise(thing):
                told = least_clash_holds(form, other)
                self.assertIs(told, is_least_clash(form, other), repr(other))
                right, wrong = right + told, wrong + (not told)
        self.assertGreater(right, 5)
        self.assertGreater(wrong, 2000)

    def test_other_values(self):
        for thing in STRANGE + OBJECTS + (nested(40), list(RIGHT), (list(ANSWERS),) + RIGHT[1:], (RIGHT,), RIGHT + ((),), RIGHT[:2]):
            self.holds(COAT, thing, False)
            for at in range(3):
                self.holds(COAT, RIGHT[:at] + (thing,) + RIGHT[at + 1:], False)
            for at in range(2):
                found = RIGHT[1][:at] + (thing,) + RIGHT[1][at + 1:]
                self.holds(COAT, (ANSWERS, found, DERIVATION), False)
        self.holds(COAT, (ANSWERS, list(RIGHT[1]), DERIVATION), False)
        self.holds(COAT, (ANSWERS, RIGHT[1] * 5000, DERIVATION), False)
        self.holds(COAT, (ANSWERS * 5000, RIGHT[1] * 5000, DERIVATION), False)

    def test_great_forms(self):
        form = Form(ODDS, THIRTY, ("odd", THIRTY[:3]))
        clash = tuple((field, "no") for field in THIRTY[:3])
        found = tuple(tuple("yes" if field == each else "no" for each in THIRTY) for field in THIRTY[:3])
        self.holds(form, (clash, found, ((clash, ("rule", 0)),)))
        self.holds(form, (clash, found[::-1], ((clash, ("rule", 0)),)), False)
        before = state(form)
        least_clash_holds(form, (clash, found, ((clash, ("rule", 0)),)))
        self.assertEqual(state(form), before)


class AllTests(Checks, unittest.TestCase):
    def test_the_example(self):
        self.assertEqual(least_clashes(COAT), ((("a", "no"), ("c", "yes")),))
        self.assertEqual(least_clashes(form=COAT), ((("a", "no"), ("c", "yes")),))

    def test_held_against_all_answers(self):
        for form in some_forms(4, 250):
            self.assertEqual(self.unchanged(form, least_clashes, form), all_least_clashes(form), form.text)

    def test_edges(self):
        self.assertEqual(least_clashes(Form(PAIRS, ())), ())
        self.assertEqual(least_clashes(Form(PAIRS, ("a", "b"))), ())
        self.assertEqual(least_clashes(COAT.hiding("a", "c")), ())
        self.assertEqual(least_clashes(Form(Book(("x",)), THIRTY[:8])), ())
        never = Form(MIXED, THIRTY[:8], ("never", THIRTY[:2]), hidden=THIRTY[:8])
        self.assertEqual(least_clashes(never), ((),))

    def test_fewer_answers_first(self):
        form = Form(MIXED, ("a", "b", "c", "d"), ("odd", ("a", "b", "c")), ("is", ("d",)))
        found = least_clashes(form)
        self.assertEqual(found, all_least_clashes(form))
        self.assertEqual([len(clash) for clash in found], [1, 3, 3, 3, 3])

    def test_eight_fields(self):
        source = random.Random(5)
        for book in (PAIRS, TRIO, HORNS, ODDS, Book(BITS, (("notall", NOTALL), ("some", SOME)))):
            for many in (4, 8, 12):
                fields = THIRTY[:8]
                names = [source.choice(book.names) for _ in range(many)]
                form = Form(book, fields, *[(name, tuple(source.sample(fields, book[name].width))) for name in names])
                found = [set(zip(fields, some)) for some in all_fillings(form)]
                for clash in least_clashes(form):
                    self.assertFalse(any(set(clash) <= some for some in found))
                    for pair in clash:
                        self.assertTrue(any(set(clash) - {pair} <= some for some in found))
                if many == 4:
                    self.assertEqual(least_clashes(form), all_least_clashes(form))

    def test_six_fields_of_three_values(self):
        source = random.Random(6)
        for book in (COLOURS, Book(TRIT, (("next", NEXT), ("one", Table(TRIT, 1, (("a",), ("b",))))))):
            for many in (0, 3, 6):
                fields = THIRTY[:6]
                names = [source.choice(book.names) for _ in range(many)]
                form = Form(book, fields, *[(name, tuple(source.sample(fields, book[name].width))) for name in names])
                found = least_clashes(form.hiding(*fields[:2]))
                self.assertEqual(found, all_least_clashes(form.hiding(*fields[:2])))

    def test_too_great(self):
        for form in GREAT + (GREAT[0].with_rules(("odd", THIRTY[:3])), GREAT[2].hiding(*THIRTY[:8])):
            self.fails(TooGreat, {}, least_clashes, form)
            self.fails(TooGreat, {}, least_clashes, form=form)

    def test_each_is_what_least_clash_finds(self):
        for form in some_forms(7, 80):
            for clash in least_clashes(form):
                told, found, derivation = least_clash(form, clash)
                self.assertEqual(told, clash)
                self.assertTrue(derivation_holds(form, clash, derivation))
                self.assertTrue(all(is_filling(form, some) for some in found))


if __name__ == "__main__":
    unittest.main()
