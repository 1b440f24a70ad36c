"""Points 3, 7, 8 and 18: answers stand or clash, derivations, and great forms."""

import random
import unittest
from itertools import product

from brute import (
    BELOW, BOOKS, COLOURS, HORNS, NEXT, NOTALL, ODDS, PARITY, SOME, TRIO, all_answers, all_choices, all_fillings, choice_keeps,
    having, is_derivation, narrowed_tried, number_tried, put_otherwise, some_forms, tree,
)
from clashnumber.books import Book
from clashnumber.errors import TooGreat
from clashnumber.forms import Form, is_filling
from clashnumber.standing import derivation_holds, is_great, standing
from clashnumber.tables import Table
from samples import BITS, COAT, EITHER, OBJECTS, PAIRS, STRANGE, THIRTY, TRIT, Checks, nested, state

FIRST = ((("a", "no"), ("b", "no")), ("rule", 0))
SECOND = ((("b", "yes"), ("c", "yes")), ("rule", 1))
THIRD = ((("a", "no"), ("c", "yes")), ("field", "b", (0, 1)))
ANSWERS = (("a", "no"), ("c", "yes"))
IS = Table(BITS, 1, (("yes",),))
NEVER = Table(BITS, 2)
MIXED = Book(BITS, (("either", EITHER), ("is", IS), ("never", NEVER), ("odd", PARITY)))
TWICE = Form(MIXED, ("a", "b"), ("odd", ("a", "b", "b")), ("either", ("b", "b")))


def chain(book, name, many):
    """A form with so many fields in which each three neighbours have a rule."""
    fields = THIRTY[:many]
    return Form(book, fields, *[(name, some) for some in zip(fields, fields[1:], fields[2:])])


class StandingTests(Checks, unittest.TestCase):
    def check(self, form, answers, found):
        """What standing returns, held against all fillings that have the answers."""
        told = self.unchanged([form, answers], standing, form, answers)
        self.assertIs(told.__class__, tuple)
        word, thing = told
        if found:
            self.assertEqual(word, "stands")
            self.assertIs(thing.__class__, tuple)
            self.assertIn(thing, found)
        else:
            self.assertEqual(word, "clashes")
            self.assertTrue(is_derivation(form, answers, thing), form.text)
            self.assertIs(derivation_holds(form, answers, thing), True)

    def test_the_examples(self):
        self.assertEqual(standing(COAT, (("a", "no"),)), ("stands", ("no", "yes", "no")))
        self.check(COAT, ANSWERS, [])
        self.assertEqual(standing(answers=(("a", "no"),), form=COAT), ("stands", ("no", "yes", "no")))
        self.assertIn(standing(COAT)[1], all_fillings(COAT))

    def test_all_answers_of_small_forms(self):
        for form in some_forms(1, 250):
            found = all_fillings(form)
            for answers in all_answers(form):
                self.check(form, answers, having(form, found, answers))

    def test_edges(self):
        empty = Form(PAIRS, ())
        self.assertEqual([standing(empty), standing(empty, ())], [("stands", ())] * 2)
        self.assertEqual(standing(Form(Book(("x",)), ("a", "b"))), ("stands", ("x", "x")))
        free = Form(PAIRS, ("a", "b"), hidden=("a",))
        self.check(free, (("b", "yes"),), [("no", "yes"), ("yes", "yes")])
        never = Form(MIXED, ("a", "b"), ("never", ("b", "b")))
        self.check(never, (), [])
        self.check(never, (("a", "no"),), [])
        lone = Book(("x",), (("never", Table(("x",), 1)),))
        self.check(Form(lone, ("a", "b"), ("never", ("b",))), (), [])
        self.check(Form(lone, ("a", "b"), ("never", ("b",)), hidden=("b",)), (("a", "x"),), [])
        self.check(TWICE, (), [("yes", "yes")])
        self.check(TWICE, (("a", "no"),), [])

    def test_sixteen_fields_and_sixty_rules(self):
        source = random.Random(2)
        books = [book for book, number, chosen in BOOKS if (number in (0, 1, 2) or chosen) and book.names]
        clashes = 0
        for at in range(200):
            book = books[at % len(books)]
            fields = THIRTY[:16]
            rules = []
            for _ in range(source.choice((15, 25, 40, 60))):
                name = source.choice(book.names)
                rules.append((name, tuple(source.sample(fields, book[name].width))))
            form = Form(book, fields, *rules, hidden=tuple(source.sample(fields, 4)))
            answers = tuple((field, source.choice(book.domain)) for field in form.shown if source.random() < 0.2)
            word, thing = standing(form, answers)
            if word == "stands":
                self.assertTrue(is_filling(form, thing) and having(form, [thing], answers))
            else:
                clashes += 1
                self.assertTrue(derivation_holds(form, answers, thing))
        self.assertGreater(clashes, 20)

    def test_ten_fields_of_clash_number_three(self):
        source = random.Random(3)
        for book in (TRIO, Book(BITS, (("is", IS), ("some", SOME)))):
            for _ in range(40):
                fields = THIRTY[:10]
                names = [source.choice(book.names) for _ in range(source.choice((20, 60)))]
                form = Form(book, fields, *[(name, tuple(source.sample(fields, book[name].width))) for name in names])
                answers = tuple((field, source.choice(BITS)) for field in fields if source.random() < 0.5)
                self.check(form, answers, having(form, all_fillings(form), answers))

    def test_forms_that_are_just_not_great(self):
        source = random.Random(4)
        for book, many in ((ODDS, 13), (COLOURS, 8)):
            for rules in (10, 14, 20, 60):
                fields = THIRTY[:many]
                names = [source.choice(book.names) for _ in range(rules)]
                form = Form(book, fields, *[(name, tuple(source.sample(fields, book[name].width))) for name in names])
                self.check(form, (), all_fillings(form))

    def test_parts_that_have_nothing_to_do_with_one_another(self):
        fields = THIRTY[:9]
        rules = [("odd", some) for some in zip(fields, fields[1:], fields[2:])]
        form = Form(MIXED, fields + ("y", "z"), *rules, ("either", ("z", "y")))
        self.assertEqual(len(standing(form, (("y", "no"), ("z", "no")))[1]), 1)

    def test_forms_that_are_returned_may_be_larger(self):
        left = chain(Book(TRIT, (("next", NEXT),)), "next", 0)
        rules = [("next", some) for some in zip(THIRTY, THIRTY[1:])]
        form = left & Form(left.book, THIRTY, *rules)
        self.assertEqual(standing(form, ((THIRTY[0], "a"),))[1], ("a", "b", "c") * 10)
        self.assertEqual(standing(form, ((THIRTY[0], "a"), (THIRTY[29], "a")))[0], "clashes")

    def test_too_great(self):
        for form in (chain(ODDS, "odd", 14), chain(ODDS, "odd", 16), Form(COLOURS, THIRTY[:9])):
            answers = tuple((field, form.book.domain[0]) for field in form.fields[:-1])
            self.fails(TooGreat, {}, standing, form)
            self.fails(TooGreat, {}, standing, form, answers)
            self.fails(TooGreat, {}, standing, answers=answers, form=form)


class GreatTests(Checks, unittest.TestCase):
    def check(self, form, right):
        self.assertIs(self.unchanged(form, is_great, form), right)
        self.assertIs(is_great(form=form), right)

    def test_the_clash_number_is_known(self):
        for book, number, _ in BOOKS:
            if number is not None:
                self.check(Form(book, THIRTY), False)
                rules = [(name, THIRTY[:book[name].width]) for name in book]
                self.check(Form(book, THIRTY, *rules), False)

    def test_a_choice_keeps_the_book(self):
        for book, number, chosen in BOOKS:
            if number is None:
                self.check(Form(book, THIRTY), not chosen)
                self.check(Form(book, THIRTY[:14]), not chosen)
                self.check(Form(book, THIRTY[:8], hidden=THIRTY[:3]), False)

    def test_how_many_candidates(self):
        self.check(Form(ODDS, THIRTY[:13]), False)
        self.check(Form(ODDS, THIRTY[:14]), True)
        self.check(Form(ODDS, THIRTY[:14], hidden=THIRTY[:14]), True)
        self.check(Form(ODDS, ()), False)
        self.check(Form(COLOURS, THIRTY[:8]), False)
        self.check(Form(COLOURS, THIRTY[:9]), True)
        book = Book(TRIT, (("two", Table(TRIT, 1, (("a",), ("b",)))), ("unlike", COLOURS["unlike"])))
        twos = [("two", (field,)) for field in THIRTY]
        self.check(Form(book, THIRTY[:12], *twos[:10]), False)
        self.check(Form(book, THIRTY[:11], *twos[:7]), True)
        self.check(Form(book, THIRTY[:13], *twos[:13]), False)
        self.check(Form(book, THIRTY[:14], *twos[:14]), True)

    def test_what_narrowing_leaves(self):
        book = Book(BITS, (("is", IS), ("never", NEVER), ("odd", PARITY)))
        self.check(Form(book, THIRTY), True)
        given = [("is", (field,)) for field in THIRTY[:17]]
        self.check(Form(book, THIRTY, *given), False)
        self.check(Form(book, THIRTY, *given[1:]), True)
        self.check(Form(book, THIRTY, ("never", THIRTY[:2])), False)
        self.check(Form(book, THIRTY, ("odd", ("fa", "fb", "fc")), *given[:2]), True)
        forced = chain(book, "odd", 30).with_rules(("is", (THIRTY[0],)), ("is", (THIRTY[1],)))
        self.check(forced, False)
        # Narrowing looks at each place alone, so these rules remove nothing.
        alone = [("odd", (field, field, field)) for field in THIRTY]
        self.check(Form(book, THIRTY, *[("odd", (one, two, two)) for one, two in zip(THIRTY, THIRTY[1:])]), True)
        self.check(Form(book, THIRTY, *alone), True)

    def test_held_against_all_votes_and_choices(self):
        for at, form in enumerate(some_forms(5, 60)):
            more = Form(form.book, THIRTY[:15 if at % 2 else 30], *form.rules)
            size = 1
            for values in narrowed_tried(more, ()):
                size *= len(values)
            chosen = any(choice_keeps(more.book.domain, results, more.book) for results in all_choices(more.book.domain))
            self.check(more, size > 10000 and number_tried(more.book) is None and not chosen)

    def test_many_rules(self):
        rules = [("odd", some) for some in product(THIRTY, repeat=3)]
        self.check(Form(ODDS, THIRTY, *rules), True)
        rules = [("horn", some) for some in product(THIRTY[:12], repeat=3)]
        self.check(Form(HORNS, THIRTY, *rules), False)


class DerivationTests(Checks, unittest.TestCase):
    def holds(self, form, answers, thing, right=True):
        self.assertIs(self.unchanged([form, answers, thing], derivation_holds, form, answers, thing), right)

    def test_the_examples(self):
        self.holds(COAT, ANSWERS, (FIRST, SECOND, THIRD))
        self.holds(COAT, ANSWERS, (FIRST, THIRD), False)
        self.assertIs(derivation_holds(thing=(FIRST, SECOND, THIRD), answers=ANSWERS, form=COAT), True)

    def test_for_other_answers(self):
        whole = (FIRST, SECOND, THIRD)
        for answers in all_answers(COAT):
            self.holds(COAT, answers, whole, answers == ANSWERS)
        wider = Form(PAIRS, ("a", "b", "c", "d"), *COAT.rules)
        for answers in all_answers(wider):
            self.holds(wider, answers, whole, any(set(step[0]) <= set(answers) for step in whole))

    def test_the_empty_derivation_is_none(self):
        for form in (COAT, Form(PAIRS, ()), Form(MIXED, ("a", "b"), ("never", ("a", "b")))):
            self.holds(form, (), (), False)
        self.holds(COAT, ANSWERS, (), False)

    def test_a_rule_without_rows(self):
        form = Form(MIXED, ("a", "b"), ("never", ("a", "b")))
        for nogood in [()] + [answers for answers in all_answers(form)]:
            self.holds(form, nogood, ((nogood, ("rule", 0)),))
        self.holds(form, (), ((((("a", "no"),)), ("rule", 0)),), False)

    def test_a_field_several_times_in_a_rule(self):
        twice = Form(PAIRS, ("a",), ("either", ("a", "a")), ("notboth", ("a", "a")))
        no, yes = ((("a", "no"),), ("rule", 0)), ((("a", "yes"),), ("rule", 1))
        self.holds(twice, (), (no, yes, ((), ("field", "a", (0, 1)))))
        self.holds(twice, (), (no, yes, ((), ("field", "a", (1, 0)))), False)
        self.holds(twice, (("a", "no"),), (no,))
        self.holds(twice, (("a", "yes"),), (no,), False)
        self.holds(twice, (("a", "yes"),), (((("a", "yes"),), ("rule", 0)),), False)
        unlike = Form(Book(TRIT, (("next", NEXT),)), ("a", "b"), ("next", ("b", "b")))
        self.holds(unlike, (), (((), ("rule", 0)),))
        self.holds(TWICE, (("a", "no"),), (((("a", "no"), ("b", "no")), ("rule", 0)),), False)
        self.holds(TWICE, (("b", "no"),), (((("b", "no"),), ("rule", 0)),))
        self.holds(TWICE, (("a", "no"),), (((("a", "no"),), ("rule", 1)),))

    def test_a_nogood_of_a_rule_may_have_other_fields(self):
        self.holds(COAT, ANSWERS, (((("a", "no"), ("b", "no"), ("c", "yes")), ("rule", 0)), SECOND, THIRD))
        self.holds(COAT, ANSWERS, (((("b", "no"), ("c", "yes")), ("rule", 0)), SECOND, THIRD), False)

    def test_nogoods_that_have_less_than_they_may(self):
        form = Form(MIXED, ("a", "b"), ("never", ("a", "b")), hidden=("b",))
        none = ((), ("rule", 0))
        self.holds(form, (), (none, ((), ("field", "b", (0, 0)))))
        self.holds(form, (), (none, ((("a", "no"),), ("field", "b", (0, 0)))))
        self.holds(form, (("a", "no"),), (((("a", "no"),), ("rule", 0)), ((("a", "no"),), ("field", "b", (0, 0)))))
        self.holds(form, (), (none, ((("b", "no"),), ("field", "b", (0, 0)))), False)
        self.holds(form, (), (none, ((), ("field", "c", (0, 0)))), False)

    def test_every_step_must_be_right(self):
        whole = (FIRST, SECOND, THIRD)
        self.holds(COAT, ANSWERS, whole + whole)
        self.holds(COAT, ANSWERS, whole + (FIRST, FIRST))
        self.holds(COAT, ANSWERS, (THIRD,) + whole, False)
        self.holds(COAT, ANSWERS, whole + (((("a", "no"), ("b", "no")), ("rule", 1)),), False)
        self.holds(COAT, ANSWERS, whole + (((("a", "yes"),), ("field", "b", (0, 1))),), False)
        self.holds(COAT, ANSWERS, whole + (((("a", "no"), ("c", "yes")), ("field", "b", (3, 1))),), False)
        self.holds(COAT, ANSWERS, whole + (((("a", "no"), ("c", "yes")), ("field", "b", (0, 2))),))
        self.holds(COAT, ANSWERS, whole + (((("a", "no"), ("c", "yes")), ("field", "b", (0, 0))),), False)
        self.holds(COAT, ANSWERS, whole + (None,), False)

    def test_answered_and_hidden_fields_as_reasons(self):
        form = Form(PAIRS, ("a", "b"), ("either", ("a", "b")), ("either", ("b", "b")), ("notboth", ("b", "b")))
        no, yes = ((("b", "no"),), ("rule", 1)), ((("b", "yes"),), ("rule", 2))
        whole = (no, yes, ((), ("field", "b", (0, 1))))
        for some in (form, form.hiding("b"), form.hiding("a", "b")):
            self.holds(some, (), whole)
        self.holds(form, (("b", "no"),), (no, yes, ((), ("field", "b", (0, 1)))))
        self.holds(form, (("b", "no"),), whole)

    def test_bools_are_no_numbers(self):
        whole = (FIRST, SECOND, THIRD)
        self.holds(COAT, ANSWERS, ((FIRST[0], ("rule", False)), SECOND, THIRD), False)
        self.holds(COAT, ANSWERS, (FIRST, (SECOND[0], ("rule", True)), THIRD), False)
        for numbers in ((False, True), (0, True), (False, 1)):
            self.holds(COAT, ANSWERS, (FIRST, SECOND, (THIRD[0], ("field", "b", numbers))), False)
        self.holds(COAT, ANSWERS, whole)

    def test_numbers_out_of_range(self):
        for number in (-1, -2, 2, 3, 10 ** 39, -10 ** 39):
            self.holds(COAT, ANSWERS, ((FIRST[0], ("rule", number)), SECOND, THIRD), False)
            self.holds(COAT, ANSWERS, (FIRST, SECOND, (THIRD[0], ("field", "b", (0, number)))), False)
            self.holds(COAT, ANSWERS, (FIRST, SECOND, (THIRD[0], ("field", "b", (number, 1)))), False)
        for numbers in ((), (0,), (0, 1, 1), [0, 1], None, 0, {0: 1}):
            self.holds(COAT, ANSWERS, (FIRST, SECOND, (THIRD[0], ("field", "b", numbers))), False)

    def test_one_part_put_otherwise(self):
        below = Form(Book(TRIT, (("below", BELOW), ("next", NEXT))), ("x", "y"), ("below", ("x", "y")), ("next", ("x", "y")))
        below = below.with_rules(("next", ("y", "x")))
        lone = Form(Book(("x",), (("never", Table(("x",), 1)),)), ("a", "b"), ("never", ("b",)))
        long = (((("b", "x"),), ("rule", 0)), ((("a", "x"),), ("field", "b", (0,))), ((), ("field", "b", (0,))))
        some = [
            (COAT, ANSWERS, (FIRST, SECOND, THIRD)), (TWICE, (("a", "no"),), standing(TWICE, (("a", "no"),))[1]),
            (below, (), standing(below)[1]), (lone, (), long), (TWICE, (("a", "no"),), tree(TWICE, (("a", "no"),))),
        ]
        right = wrong = 0
        for form, answers, whole in some:
            self.holds(form, answers, whole)
            for thing in put_otherwise(whole):
                told = derivation_holds(form, answers, thing)
                self.assertIs(told, is_derivation(form, answers, thing), repr(thing))
                right, wrong = right + told, wrong + (not told)
        self.assertGreater(right, 20)
        self.assertGreater(wrong, 5000)

    def test_other_values(self):
        self.assertIs(derivation_holds(COAT, ANSWERS, (FIRST, SECOND, THIRD)), True)
        for thing in STRANGE + OBJECTS + (nested(40), [FIRST, SECOND, THIRD], {FIRST: SECOND}, (FIRST,), (FIRST[0],)):
            for answers in ((), ANSWERS):
                self.holds(COAT, answers, thing, False)
                self.holds(COAT, answers, (thing,), False)
                self.holds(COAT, answers, (FIRST, SECOND, THIRD, thing), False)
            for step in ((thing, ("rule", 0)), (FIRST[0], thing), (FIRST[0], (thing, 0)), (FIRST[0], ("rule", thing))):
                right = is_derivation(COAT, ANSWERS, (step, SECOND, THIRD))
                self.holds(COAT, ANSWERS, (step, SECOND, THIRD), right)
            for pair in ((thing, "no"), ("b", thing)):
                self.holds(COAT, ANSWERS, (((("a", "no"), pair), ("rule", 0)), SECOND, THIRD), False)
            for reason in ((thing, "b", (0, 1)), ("field", thing, (0, 1)), ("field", "b", thing), ("field", "b", (0, thing))):
                right = is_derivation(COAT, ANSWERS, (FIRST, SECOND, (THIRD[0], reason)))
                self.holds(COAT, ANSWERS, (FIRST, SECOND, (THIRD[0], reason)), right)

    def test_whoever_made_it(self):
        for form in some_forms(6, 120):
            found = all_fillings(form)
            for answers in all_answers(form):
                if not having(form, found, answers):
                    self.holds(form, answers, tree(form, answers))

    def test_long_derivations(self):
        fields = THIRTY[:10]
        rules = [("odd", some) for some in zip(fields, fields[1:], fields[2:])]
        form = Form(MIXED, fields, *rules, ("is", ("fa",)), ("is", ("fb",)))
        answers = ((fields[9], "no"),)
        whole = tree(form, answers)
        self.holds(form, answers, whole)
        many = whole * 1
        while len(many) < 6000:
            many = many + whole
        # The numbers of a repeated part are those of the first one, which are earlier, too.
        self.holds(form, answers, many)
        self.holds(form, answers, many[:-1] + ((many[-1][0], ("rule", 0)),), False)
        self.holds(form, (), many, False)

    def test_thirty_fields(self):
        rules = [("either", some) for some in product(THIRTY, repeat=2)]
        form = Form(PAIRS, THIRTY, *rules, *[("notboth", places) for _, places in rules], hidden=THIRTY[5:])
        index = form.rules.index(("either", ("fa", "fb")))
        last = form.rules.index(("notboth", ("gd", "gd")))
        self.holds(form, (("fa", "no"), ("fb", "no")), (((("fa", "no"), ("fb", "no")), ("rule", index)),))
        self.holds(form, (("fa", "no"),), (((("fa", "no"), ("fb", "no")), ("rule", index)),), False)
        wide = tuple((field, "yes") for field in form.fields)
        self.holds(form, wide[:5], ((wide, ("rule", last)), ((), ("rule", last))), False)
        self.holds(form, wide[:5], ((wide, ("rule", last)),), False)
        self.assertEqual(last, len(form.rules) - 1)
        self.assertIs(derivation_holds(form, (("fa", "no"), ("fb", "no")), standing(form)[1]), True)

    def test_great_forms_have_derivations(self):
        form = chain(ODDS, "odd", 30)
        step = (tuple((field, "no") for field in form.fields[:3]), ("rule", 0))
        self.holds(form, step[0], (step,))
        before = state(form)
        derivation_holds(form, step[0], (step,))
        self.assertEqual(state(form), before)


if __name__ == "__main__":
    unittest.main()
