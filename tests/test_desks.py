"""Point 21, with points 2, 7, 10 and 18: desks."""

import random
import unittest

from brute import (
    BELOW, BOOKS, COLOURS, HORN, HORNS, NEXT, NOTALL, ODDS, PARITY, SOME, TRIO, UNLIKE, all_answers, all_fillings,
    all_least_clashes, having, is_at_most, is_worst, number_tried, some_book, some_form, some_forms,
)
from clashnumber.books import Book
from clashnumber.desks import Desk
from clashnumber.errors import (
    Clash, ClashnumberError, InUse, MoreThan, NoAnswer, NoBook, NoBound, NoField, NoForm, NoValue, TooGreat,
)
from clashnumber.forms import Form, is_filling
from clashnumber.narrowing import examine_narrowing
from clashnumber.standing import is_great, standing
from clashnumber.tables import Table
from samples import BITS, COAT, EITHER, NOTBOTH, OBJECTS, PAIRS, STRANGE, THIRTY, TRIT, Checks, nested, state

IS = Table(BITS, 1, (("yes",),))
GREAT = Form(ODDS, THIRTY[:14])
ALMOST = Form(ODDS, THIRTY[:13])
ANY = STRANGE + OBJECTS + ("x", "maybe", ("a",), ("a", "no"), nested(40))


def over(form, book):
    """The form over another book."""
    return Form(book, form.fields, *form.rules, hidden=form.hidden)


def without_field(form, field):
    fields = tuple(each for each in form.fields if each != field)
    return Form(form.book, fields, *form.rules, hidden=tuple(each for each in form.hidden if each != field))


def is_bound(book, bound):
    return type(bound) is int and 0 <= bound <= 3 and (bound < 3 or len(book.domain) < 3)


class Model:
    """What a desk must do, by the words of the document and by trying everything. Calls return or raise as theirs do.

    An error is told by its class and by the value that its attribute must have, or by a check of this value.
    """

    def __init__(self, form, answers=(), bound=None):
        self.form, self.answers, self.bound = form, tuple(answers), bound

    def stand(self, form, answers):
        return having(form, all_fillings(form), answers) != []

    def clash(self, form, answers):
        if not self.stand(form, answers):
            least = [clash for clash in all_least_clashes(form) if set(clash) <= set(answers)]
            return Clash, lambda error: error.pairs in least
        return None

    def replaced(self, answers, field, value):
        return tuple(sorted([pair for pair in answers if pair[0] != field] + [(field, value)]))

    def within(self, book, bound):
        if bound is not None and not is_bound(book, bound):
            return NoBound, lambda error: error.number is bound
        if bound is not None and not is_at_most(book, bound):
            return MoreThan, lambda error: is_worst(book, bound, error.worst)
        return None

    def open_values(self, form, answers, field):
        return tuple(value for value in form.book.domain if self.stand(form, self.replaced(answers, field, value)))

    def settled(self, form, answers):
        found = []
        for field in form.shown:
            values = self.open_values(form, answers, field)
            if field not in dict(answers) and len(values) == 1:
                found.append((field, values[0]))
        return tuple(found)

    def answer_error(self, answers, field, value):
        if field not in self.form.shown:
            return NoField, lambda error: error.field is field
        if value not in self.form.book.domain:
            return NoValue, lambda error: error.value is value
        return self.clash(self.form, self.replaced(answers, field, value))

    def answer(self, field, value):
        error = self.answer_error(self.answers, field, value)
        if error is None:
            self.answers = self.replaced(self.answers, field, value)
        return error, None

    def trial(self, *answers):
        given = self.answers
        for field, value in answers:
            error = self.answer_error(given, field, value)
            if error is not None:
                return error, None
            given = self.replaced(given, field, value)
        return None, (given, self.settled(self.form, given))

    def take_back(self, *fields):
        for field in fields:
            if field not in [name for name, _ in self.answers]:
                return (NoAnswer, lambda error: error.field is field), None
        self.answers = tuple(pair for pair in self.answers if pair[0] not in fields)
        return None, None

    def set_bound(self, bound):
        error = self.within(self.form.book, bound)
        if error is None:
            self.bound = bound
        return error, None

    def changed(self, error, form):
        if error is None:
            self.form = form
        return error, None

    def add_rules(self, *rules):
        try:
            form = self.form.with_rules(*rules)
        except NoForm as error:
            word = error.word
            return (NoForm, lambda found: found.word == word), None
        return self.changed(self.clash(form, self.answers), form)

    def drop_rules(self, *rules):
        try:
            return self.changed(None, self.form.without_rules(*rules))
        except NoForm as error:
            word = error.word
            return (NoForm, lambda found: found.word == word), None

    def add_field(self, field, *, hidden=False):
        form = self.form
        if type(field) is not str or not field.isalpha() or field.lower() != field or len(field) > 8:
            return (NoForm, lambda error: error.word == "fields"), None
        if field in form.fields:
            return (NoForm, lambda error: error.word == "fields"), None
        more = (field,) if hidden else ()
        return self.changed(None, Form(form.book, form.fields + (field,), *form.rules, hidden=form.hidden + more))

    def drop_field(self, field):
        if field not in self.form.fields:
            return (NoField, lambda error: error.field is field), None
        if field in dict(self.answers) or any(field in places for _, places in self.form.rules):
            return (InUse, lambda error: error.name is field), None
        return self.changed(None, without_field(self.form, field))

    def hide(self, field):
        if field not in self.form.shown:
            return (NoField, lambda error: error.field is field), None
        if field in dict(self.answers):
            return (InUse, lambda error: error.name is field), None
        return self.changed(None, self.form.hiding(field))

    def show(self, field):
        if field not in self.form.hidden:
            return (NoField, lambda error: error.field is field), None
        hidden = tuple(each for each in self.form.hidden if each != field)
        return self.changed(None, Form(self.form.book, self.form.fields, *self.form.rules, hidden=hidden))

    def add_table(self, name, table):
        try:
            book = self.form.book.with_table(name, table)
        except NoBook as error:
            word = error.word
            return (NoBook, lambda found: found.word == word), None
        return self.changed(self.within(book, self.bound), over(self.form, book))

    def drop_table(self, name):
        if name not in self.form.book.names:
            return (NoBook, lambda error: error.word == "name"), None
        if any(table == name for table, _ in self.form.rules):
            return (InUse, lambda error: error.name is name), None
        kept = [each for each in self.form.book.names if each != name]
        return self.changed(None, over(self.form, self.form.book.only(*kept)))


class DeskChecks(Checks):
    """Checks of desks."""

    def check(self, desk, form, answers, bound, whole=True):
        """All that a desk tells, held against trying everything."""
        model = Model(form, answers, bound)
        before = state([desk, form, answers])
        self.assertEqual([desk.form, desk.answers, desk.bound], [form, answers, bound])
        self.assertIs(desk.bound.__class__, bound.__class__)
        self.assertEqual(len(desk), len(answers))
        self.assertEqual(list(desk), [field for field, _ in answers])
        if whole:
            self.assertEqual(desk.settled, model.settled(form, answers), form.text)
            self.assertIn(desk.filling(), having(form, all_fillings(form), answers))
        else:
            self.assertTrue(is_filling(form, desk.filling()))
        least = all_least_clashes(form) if whole else ()
        for field in form.fields:
            self.assertIs(field in desk, field in dict(answers))
            if field in form.hidden:
                self.fails(NoField, {"field": field}, desk.__getitem__, field)
            else:
                self.assertEqual(desk[field], dict(answers).get(field))
            if whole and field in form.shown:
                values = model.open_values(form, answers, field)
                self.assertEqual(desk.open_values(field), values)
                for value in form.book.domain:
                    given = model.replaced(answers, field, value)
                    pairs = desk.why_not(field, value)
                    if value in values:
                        self.assertIs(pairs, None)
                    else:
                        self.assertIn(pairs, least)
                        self.assertTrue(set(pairs) <= set(given) and (field, value) in pairs)
        self.assertEqual(state([desk, form, answers]), before)

    def call(self, desk, name, *told, **named):
        """The same call of the desk and of its model; the desk is then as the model, or as before."""
        model = Model(desk.form, desk.answers, desk.bound)
        before = state([desk, told, named])
        error, returned = getattr(model, name)(*told, **named)
        if error is None:
            self.assertEqual(getattr(desk, name)(*told, **named), returned)
            if name == "trial":
                self.assertEqual(state([desk, told, named]), before)
        else:
            with self.assertRaises(ClashnumberError) as caught:
                getattr(desk, name)(*told, **named)
            self.assertIs(caught.exception.__class__, error[0], (name, told))
            self.assertTrue(error[1](caught.exception), (name, told, vars(caught.exception)))
            self.assertEqual(state([desk, told, named]), before)
        self.assertEqual([desk.form, desk.answers, desk.bound], [model.form, model.answers, model.bound])
        return error is None


def some_answers(source, form):
    """Answers that stand, or None."""
    found = all_fillings(form)
    if not found:
        return None
    whole = dict(zip(form.fields, source.choice(found)))
    return tuple((field, whole[field]) for field in form.shown if source.random() < 0.4)


def standing_desks(seed, many):
    """So many desks over small forms, with answers, and bounds that are not exceeded."""
    source = random.Random(seed)
    for form in some_forms(seed, many):
        answers = some_answers(source, form)
        if answers is not None:
            bounds = [k for k in range(4) if is_bound(form.book, k) and is_at_most(form.book, k)]
            bound = source.choice([None] + bounds)
            yield Desk(form, answers, bound=bound), form, answers, bound


class MadeTests(DeskChecks, unittest.TestCase):
    def test_the_examples(self):
        desk = Desk(COAT, bound=2)
        desk["a"] = "no"
        self.assertEqual([desk.answers, desk.settled], [(("a", "no"),), (("c", "no"),)])
        self.assertEqual([desk.why_not("c", "yes"), desk.open_values("a")], [(("a", "no"), ("c", "yes")), BITS])
        self.fails(Clash, {"pairs": (("a", "no"), ("c", "yes"))}, desk.__setitem__, "c", "yes")
        self.fails(Clash, {"pairs": (("a", "no"),)}, desk.add_rules, ("either", ("a", "c")))
        self.check(desk, COAT, (("a", "no"),), 2)

    def test_small_forms(self):
        for desk, form, answers, bound in standing_desks(81, 160):
            self.check(desk, form, answers, bound)

    def test_by_name(self):
        self.check(Desk(answers=(("a", "no"),), bound=3, form=COAT), COAT, (("a", "no"),), 3)
        self.check(Desk(COAT, ()), COAT, (), None)
        with self.assertRaises(TypeError):
            Desk(COAT, (), 2)

    def test_edges(self):
        lone = Form(Book(("x",)), ("a", "b"))
        for form in (Form(PAIRS, ()), lone, Form(PAIRS, ("h",), hidden=("h",)), Form(Book(BITS), ("a",))):
            self.check(Desk(form), form, (), None)
        self.assertEqual(Desk(lone, (("a", "x"),)).settled, (("b", "x"),))
        whole = (("a", "yes"), ("c", "no"))
        self.check(Desk(COAT, whole), COAT, whole, None)
        self.assertEqual(Desk(COAT, whole).settled, ())

    def test_clash(self):
        self.fails(Clash, {"pairs": (("a", "no"), ("c", "yes"))}, Desk, COAT, (("a", "no"), ("c", "yes")))
        never = Form(Book(BITS, (("never", Table(BITS, 1)),)), ("a", "b"), ("never", ("b",)))
        self.fails(Clash, {"pairs": ()}, Desk, never)
        self.fails(Clash, {"pairs": ()}, Desk, never, (("a", "no"),), bound=0)
        source = random.Random(82)
        for form in some_forms(83, 120):
            least = all_least_clashes(form)
            for answers in source.sample(all_answers(form), min(8, len(all_answers(form)))):
                if not having(form, all_fillings(form), answers):
                    with self.assertRaises(Clash) as caught:
                        Desk(form, answers)
                    self.assertIn(caught.exception.pairs, least)
                    self.assertTrue(set(caught.exception.pairs) <= set(answers))

    def test_bounds(self):
        for book, number, _ in BOOKS:
            form = Form(book, ("a", "b"))
            for bound in range(4 if len(book.domain) < 3 else 3):
                if number is not None and number <= bound:
                    self.check(Desk(form, bound=bound), form, (), bound)
                else:
                    with self.assertRaises(MoreThan) as caught:
                        Desk(form, bound=bound)
                    self.assertTrue(is_worst(book, bound, caught.exception.worst))

    def test_no_bound(self):
        wrong = [thing for thing in ANY if thing is not None and (thing is False or thing != 0)] + [5, -4, "2", (2,), [2]]
        for thing in wrong:
            self.fails(NoBound, {"number": thing}, Desk, COAT, (), bound=thing)
            self.fails(NoBound, {"number": thing}, Desk, bound=thing, form=COAT)
        for book in (Book(TRIT), COLOURS):
            self.fails(NoBound, {"number": 3}, Desk, Form(book, ("a",)), bound=3)

    def test_the_first_error(self):
        clashing = (("a", "no"), ("c", "yes"))
        self.fails(NoBound, {"number": True}, Desk, COAT, clashing, bound=True)
        self.fails(NoBound, {"number": 4}, Desk, GREAT, bound=4)
        with self.assertRaises(MoreThan):
            Desk(COAT, clashing, bound=1)
        with self.assertRaises(MoreThan):
            Desk(GREAT, bound=3)
        odd = Form(ODDS, THIRTY[:16], ("odd", THIRTY[13:16]), ("even", THIRTY[13:16]))
        self.assertIs(is_great(odd), True)
        self.fails(TooGreat, {}, Desk, odd)
        self.fails(Clash, {"pairs": ()}, Desk, Form(ODDS, THIRTY[:3], ("odd", THIRTY[:3]), ("even", THIRTY[:3])))

    def test_too_great(self):
        self.fails(TooGreat, {}, Desk, GREAT)
        self.fails(TooGreat, {}, Desk, form=GREAT, answers=tuple((field, "no") for field in GREAT.fields))
        self.fails(TooGreat, {}, Desk, Form(COLOURS, THIRTY[:9], hidden=THIRTY[:4]))
        self.check(Desk(ALMOST), ALMOST, (), None, whole=False)
        self.assertEqual(len(Desk(Form(COLOURS, THIRTY[:8])).filling()), 8)
        # A choice keeps the one book, and the clash number of the others is known.
        for book in (HORNS, TRIO, PAIRS, Book(TRIT, (("next", NEXT),)), Book(TRIT, (("below", BELOW),))):
            many = 10 if book == TRIO else 16
            self.assertEqual(len(Desk(Form(book, THIRTY[:many])).filling()), many)
        none = Book(BITS, ODDS.tables + (("none", Table(BITS, 1)),))
        self.fails(Clash, {"pairs": ()}, Desk, Form(none, THIRTY[:16], ("none", THIRTY[:1])))

    def test_not_equal_to_others(self):
        self.not_equal_to_others(Desk(COAT))


class AnswerTests(DeskChecks, unittest.TestCase):
    def test_answers(self):
        source = random.Random(84)
        for desk, form, answers, bound in standing_desks(85, 120):
            for _ in range(4):
                if form.shown:
                    self.call(desk, "answer", source.choice(form.shown), source.choice(form.book.domain))
            self.check(desk, form, desk.answers, bound)

    def test_as_an_item(self):
        desk = Desk(COAT)
        desk["c"] = "yes"
        self.assertEqual([desk["c"], desk["a"], "c" in desk, "a" in desk], ["yes", None, True, False])
        desk["a"] = "yes"
        desk["c"] = "no"
        self.assertEqual([desk.answers, list(desk), len(desk)], [(("a", "yes"), ("c", "no")), ["a", "c"], 2])
        desk["a"] = "no"
        self.assertEqual(desk.answers, (("a", "no"), ("c", "no")))
        self.fails(Clash, {"pairs": (("a", "no"), ("c", "yes"))}, desk.__setitem__, "c", "yes")
        desk.answer(value="yes", field="a")
        self.assertEqual(desk["a"], "yes")

    def test_any_fields_and_values(self):
        desk = Desk(COAT, (("a", "no"),))
        for thing in ANY + ("b", "A", "a "):
            self.assertIs(thing in desk, False)
            self.fails(NoField, {"field": thing}, desk.__getitem__, thing)
            self.fails(NoField, {"field": thing}, desk.open_values, thing)
            self.fails(NoField, {"field": thing}, desk.open_values, field=thing)
            for value in ("no", "maybe", thing):
                self.fails(NoField, {"field": thing}, desk.answer, thing, value)
                self.fails(NoField, {"field": thing}, desk.answer, value=value, field=thing)
                self.fails(NoField, {"field": thing}, desk.__setitem__, thing, value)
                self.fails(NoField, {"field": thing}, desk.why_not, thing, value)
                self.fails(NoField, {"field": thing}, desk.trial, (thing, value))
                self.fails(NoField, {"field": thing}, desk.trial, ("c", "no"), (thing, value))
            self.fails(NoAnswer, {"field": thing}, desk.take_back, thing)
            self.fails(NoAnswer, {"field": thing}, desk.take_back, "a", thing)
            self.fails(NoAnswer, {"field": thing}, desk.take_back, thing, "c")
        for thing in ANY + ("a", "No", "yes "):
            for field in ("a", "c"):
                self.fails(NoValue, {"value": thing}, desk.answer, field, thing)
                self.fails(NoValue, {"value": thing}, desk.__setitem__, field, thing)
                self.fails(NoValue, {"value": thing}, desk.why_not, field, thing)
                self.fails(NoValue, {"value": thing}, desk.why_not, value=thing, field=field)
                self.fails(NoValue, {"value": thing}, desk.trial, (field, thing))
        self.check(desk, COAT, (("a", "no"),), None)

    def test_take_back(self):
        desk = Desk(COAT, (("a", "yes"), ("c", "no")))
        self.fails(NoAnswer, {"field": "b"}, desk.take_back, "a", "b", "x")
        self.fails(NoAnswer, {"field": None}, desk.take_back, None, "x")
        self.assertIs(desk.take_back(), None)
        self.check(desk, COAT, (("a", "yes"), ("c", "no")), None)
        self.assertIs(desk.take_back("c"), None)
        self.check(desk, COAT, (("a", "yes"),), None)
        self.fails(NoAnswer, {"field": "c"}, desk.take_back, "a", "c")
        desk["c"] = "yes"
        desk.take_back("c", "a")
        self.check(desk, COAT, (), None)

    def test_changed_while_it_is_gone_through(self):
        desk = Desk(COAT, (("a", "yes"), ("c", "no")))
        for field in desk:
            desk.take_back(field)
        self.assertEqual(len(desk), 0)

    def test_the_other_answers_alone_count(self):
        form = Form(PAIRS, ("a", "b", "c"), ("either", ("a", "b")), ("notboth", ("b", "c")), ("either", ("a", "c")))
        desk = Desk(form, (("a", "yes"), ("b", "no"), ("c", "yes")))
        self.assertEqual([desk.open_values("a"), desk.open_values("b"), desk.open_values("c")], [("yes",), ("no",), BITS])
        self.assertEqual([desk.why_not("b", "yes"), desk.why_not("a", "no")], [(("b", "yes"), ("c", "yes")), (("a", "no"),)])
        self.check(desk, form, desk.answers, None)


class TrialTests(DeskChecks, unittest.TestCase):
    def test_trials(self):
        source = random.Random(86)
        for desk, form, answers, bound in standing_desks(87, 120):
            for _ in range(5):
                pairs = [(source.choice(form.shown), source.choice(form.book.domain)) for _ in range(3) if form.shown]
                self.call(desk, "trial", *pairs[:source.randint(0, 3)])
            self.check(desk, form, answers, bound)

    def test_what_it_returns(self):
        desk = Desk(COAT)
        told = desk.trial(("a", "yes"), ("a", "no"))
        self.assertEqual(told, ((("a", "no"),), (("c", "no"),)))
        self.assertEqual([told.__class__, told[0].__class__, told[1].__class__], [tuple] * 3)
        self.assertEqual(desk.trial(), ((), ()))
        self.assertEqual(desk.trial(("c", "yes"), ("a", "yes"), ("c", "no"), ("a", "no")), ((("a", "no"), ("c", "no")), ()))
        self.check(desk, COAT, (), None)

    def test_errors(self):
        desk = Desk(COAT, (("a", "no"),), bound=2)
        self.fails(Clash, {"pairs": (("a", "no"), ("c", "yes"))}, desk.trial, ("c", "no"), ("c", "yes"), ("x", "no"))
        self.fails(NoField, {"field": "b"}, desk.trial, ("a", "yes"), ("b", "maybe"), ("c", "yes"))
        self.fails(NoValue, {"value": "maybe"}, desk.trial, ("a", "yes"), ("c", "yes"), ("a", "maybe"))
        # One after another: the clash comes before an answer that would end it.
        self.fails(Clash, {"pairs": (("a", "no"), ("c", "yes"))}, desk.trial, ("c", "yes"), ("a", "yes"))
        self.assertEqual(desk.trial(("a", "yes"), ("c", "yes"))[0], (("a", "yes"), ("c", "yes")))
        self.check(desk, COAT, (("a", "no"),), 2)


class BoundTests(DeskChecks, unittest.TestCase):
    def test_assigned(self):
        desk = Desk(COAT)
        for bound in (2, 3, None, 3, 2, None):
            desk.bound = bound
            self.check(desk, COAT, (), bound)
        for bound in (2, None, 3):
            self.assertIs(desk.set_bound(bound), None)
            self.check(desk, COAT, (), bound)
        desk.set_bound(bound=2)
        self.assertEqual(desk.bound, 2)

    def assign(self, desk, bound):
        desk.bound = bound

    def test_errors(self):
        desk = Desk(COAT, (("a", "no"),), bound=2)
        for thing in [thing for thing in ANY if thing is not None and (thing is False or thing != 0)] + [5, -1, "2", [2]]:
            self.fails(NoBound, {"number": thing}, desk.set_bound, thing)
            self.fails(NoBound, {"number": thing}, desk.set_bound, bound=thing)
            self.fails(NoBound, {"number": thing}, self.assign, desk, thing)
        for bound in (0, 1):
            for call in (desk.set_bound, lambda some: self.assign(desk, some)):
                with self.assertRaises(MoreThan) as caught:
                    call(bound)
                self.assertTrue(is_worst(PAIRS, bound, caught.exception.worst))
        self.check(desk, COAT, (("a", "no"),), 2)
        trits = Desk(Form(Book(TRIT), ("a",)), bound=0)
        self.fails(NoBound, {"number": 3}, trits.set_bound, 3)
        self.fails(NoBound, {"number": 3}, self.assign, trits, 3)
        self.assertEqual(trits.bound, 0)

    def test_all_books(self):
        for book, _, _ in BOOKS:
            desk = Desk(Form(book, ("a",)))
            for bound in (0, 1, 2, 3, None, 4, True):
                self.call(desk, "set_bound", bound)


class RuleTests(DeskChecks, unittest.TestCase):
    def test_rules_come_and_go(self):
        desk = Desk(COAT, (("a", "no"),))
        rule = ("either", ("a", "c"))
        self.fails(Clash, {"pairs": (("a", "no"),)}, desk.add_rules, rule)
        self.check(desk, COAT, (("a", "no"),), None)
        desk.take_back("a")
        self.assertIs(desk.add_rules(rule, rule), None)
        self.check(desk, COAT.with_rules(rule), (), None)
        self.assertEqual([desk.settled, desk.why_not("a", "no")], [(("a", "yes"),), (("a", "no"),)])
        desk.add_rules(rule)
        self.assertIs(desk.drop_rules(rule, rule), None)
        self.check(desk, COAT, (), None)
        desk.drop_rules(*COAT.rules)
        desk.add_rules()
        desk.drop_rules()
        self.check(desk, COAT.without_rules(*COAT.rules), (), None)
        desk.add_rules(*COAT.rules)
        self.check(desk, COAT, (), None)

    def test_wrong_rules(self):
        desk = Desk(COAT, (("a", "no"),))
        right = ("either", ("a", "c"))
        wrong = (("either", ("a",)), ("either", ("a", "x")), ("none", ("a", "b")), ("either", ["a", "b"]), list(right))
        for thing in ANY + wrong:
            for rules in ((thing,), (COAT.rules[0], thing), (thing, right), (right, thing)):
                self.refused(NoForm, "rule", desk.add_rules, *rules)
                self.refused(NoForm, "rule", desk.drop_rules, *rules)
        self.refused(NoForm, "rule", desk.drop_rules, ("either", ("a", "c")))
        self.refused(NoForm, "rule", desk.drop_rules, COAT.rules[0], ("notboth", ("a", "c")))
        self.check(desk, COAT, (("a", "no"),), None)

    def test_clashes_in_the_new_form(self):
        source = random.Random(88)
        for desk, form, answers, bound in standing_desks(89, 200):
            for _ in range(3 if form.book.names and form.fields else 0):
                name = source.choice(form.book.names)
                rule = (name, tuple(source.choice(form.fields) for _ in range(form.book[name].width)))
                self.call(desk, "add_rules", rule)
            self.check(desk, desk.form, answers, bound)
        empty = Desk(Form(Book(BITS, (("never", Table(BITS, 1)),)), ("a", "b")), (("b", "no"),))
        self.fails(Clash, {"pairs": ()}, empty.add_rules, ("never", ("a",)))

    def test_too_great(self):
        rule = ("is", THIRTY[:1])
        book = Book(BITS, ODDS.tables + (("is", IS),))
        form = Form(book, THIRTY[:14], rule, ("odd", THIRTY[:3]))
        desk = Desk(form, ((THIRTY[1], "no"),))
        self.fails(TooGreat, {}, desk.drop_rules, rule)
        self.fails(TooGreat, {}, desk.drop_rules, rule, ("odd", THIRTY[:3]))
        self.refused(NoForm, "rule", desk.drop_rules, rule, ("is", THIRTY[1:2]))
        self.check(desk, form, ((THIRTY[1], "no"),), None, whole=False)
        desk.drop_rules(("odd", THIRTY[:3]))
        desk.add_rules(("is", THIRTY[2:3]))
        desk.drop_rules(rule)
        self.assertEqual(desk.form.rules, (("is", THIRTY[2:3]),))


class FieldTests(DeskChecks, unittest.TestCase):
    def test_fields_come_and_go(self):
        desk = Desk(COAT, (("a", "no"),))
        self.assertIs(desk.add_field("d"), None)
        self.check(desk, Form(PAIRS, ("a", "b", "c", "d"), *COAT.rules, hidden=("b",)), (("a", "no"),), None)
        self.assertIs(desk.add_field("h", hidden=True), None)
        desk.add_field(hidden=False, field="e")
        form = Form(PAIRS, ("a", "b", "c", "d", "e", "h"), *COAT.rules, hidden=("b", "h"))
        self.check(desk, form, (("a", "no"),), None)
        self.assertIs(desk.hide("d"), None)
        self.assertIs(desk.show("b"), None)
        form = Form(PAIRS, form.fields, *COAT.rules, hidden=("d", "h"))
        self.check(desk, form, (("a", "no"),), None)
        self.assertEqual(desk.settled, (("b", "yes"), ("c", "no")))
        desk["b"] = "yes"
        self.fails(InUse, {"name": "b"}, desk.hide, "b")
        desk.take_back("b")
        desk.hide("b")
        for field in ("d", "e", "h"):
            self.assertIs(desk.drop_field(field), None)
        self.check(desk, COAT, (("a", "no"),), None)

    def test_wrong_fields(self):
        desk = Desk(COAT, (("a", "no"),))
        for thing in [thing for thing in ANY if thing not in ("x", "maybe")] + ["a", "b", "c"]:
            self.refused(NoForm, "fields", desk.add_field, thing)
            self.refused(NoForm, "fields", desk.add_field, thing, hidden=True)
            self.refused(NoForm, "fields", desk.add_field, hidden=False, field=thing)
        for thing in ANY:
            self.fails(NoField, {"field": thing}, desk.drop_field, thing)
            self.fails(NoField, {"field": thing}, desk.drop_field, field=thing)
            self.fails(NoField, {"field": thing}, desk.hide, thing)
            self.fails(NoField, {"field": thing}, desk.hide, field=thing)
            self.fails(NoField, {"field": thing}, desk.show, thing)
            self.fails(NoField, {"field": thing}, desk.show, field=thing)
        self.fails(NoField, {"field": "b"}, desk.hide, "b")
        self.fails(NoField, {"field": "a"}, desk.show, "a")
        self.fails(InUse, {"name": "a"}, desk.hide, "a")
        self.check(desk, COAT, (("a", "no"),), None)

    def test_fields_in_use(self):
        form = Form(PAIRS, ("a", "b", "c", "d", "e"), *COAT.rules, ("either", ("e", "e")), hidden=("b", "e"))
        desk = Desk(form, (("a", "no"), ("d", "no")))
        for field in ("a", "b", "c", "d", "e"):
            self.fails(InUse, {"name": field}, desk.drop_field, field)
        self.check(desk, form, (("a", "no"), ("d", "no")), None)
        desk.take_back("d")
        desk.drop_field("d")
        self.fails(NoField, {"field": "d"}, desk.drop_field, "d")
        desk.drop_rules(("either", ("e", "e")))
        desk.drop_field("e")
        self.check(desk, COAT, (("a", "no"),), None)

    def test_too_great(self):
        desk = Desk(ALMOST, ((THIRTY[0], "no"),))
        for hidden in (False, True):
            self.fails(TooGreat, {}, desk.add_field, "x", hidden=hidden)
        self.refused(NoForm, "fields", desk.add_field, THIRTY[0])
        self.refused(NoForm, "fields", desk.add_field, None)
        self.check(desk, ALMOST, ((THIRTY[0], "no"),), None, whole=False)
        desk.drop_field(THIRTY[1])
        desk.add_field("x", hidden=True)
        self.fails(TooGreat, {}, desk.add_field, "y")
        desk.show("x")
        self.assertEqual(desk.form.fields, THIRTY[:1] + THIRTY[2:13] + ("x",))

    def test_thirty_fields(self):
        form = Form(PAIRS, THIRTY)
        desk = Desk(form)
        self.refused(NoForm, "fields", desk.add_field, "x")
        self.check(desk, form, (), None, whole=False)


class TableTests(DeskChecks, unittest.TestCase):
    def test_tables_come_and_go(self):
        desk = Desk(COAT, (("a", "no"),), bound=2)
        self.assertIs(desk.add_table("is", IS), None)
        book = PAIRS.with_table("is", IS)
        self.check(desk, over(COAT, book), (("a", "no"),), 2)
        desk.add_table(table=Table(BITS, 1), name="never")
        desk.add_rules(("is", ("b",)))
        self.fails(InUse, {"name": "is"}, desk.drop_table, "is")
        self.fails(InUse, {"name": "either"}, desk.drop_table, "either")
        self.fails(Clash, {"pairs": ()}, desk.add_rules, ("never", ("c",)))
        desk.drop_rules(("is", ("b",)))
        self.assertIs(desk.drop_table("is"), None)
        desk.drop_table(name="never")
        self.check(desk, COAT, (("a", "no"),), 2)
        self.refused(NoBook, "name", desk.drop_table, "is")

    def test_within_the_bound(self):
        for bound in (0, 1, 2, 3, None):
            for table in (Table.full(BITS, 2), Table(BITS, 3), IS, EITHER, NOTBOTH, NOTALL, SOME, PARITY, HORN):
                desk = Desk(Form(Book(BITS), ("a", "b", "c"), hidden=("c",)), (("a", "no"),), bound=bound)
                self.call(desk, "add_table", "first", table)
                self.call(desk, "add_table", "second", EITHER)
                self.call(desk, "add_table", "third", NOTALL)
                self.check(desk, desk.form, (("a", "no"),), bound)
        trits = Desk(Form(Book(TRIT), ("a",)), bound=2)
        self.call(trits, "add_table", "unlike", UNLIKE)
        self.call(trits, "add_table", "next", NEXT)
        self.assertEqual(trits.form.book.names, ("next",))

    def test_wrong_tables(self):
        desk = Desk(COAT, bound=2)
        for thing in ANY + (UNLIKE, EITHER.rows):
            if thing != EITHER:
                self.refused(NoBook, "tables", desk.add_table, "new", thing)
                self.refused(NoBook, "tables", desk.add_table, "either", thing)
                self.refused(NoBook, "tables", desk.add_table, table=thing, name="new")
            if thing not in ("x", "maybe"):
                self.refused(NoBook, "tables", desk.add_table, thing, EITHER)
                self.refused(NoBook, "tables", desk.add_table, name=thing, table=thing)
            self.refused(NoBook, "name", desk.drop_table, thing)
            self.refused(NoBook, "name", desk.drop_table, name=thing)
        self.refused(NoBook, "name", desk.add_table, "either", EITHER)
        # A name that is there already comes before the bound.
        self.refused(NoBook, "name", desk.add_table, "either", PARITY)
        desk.add_table("one", IS)
        desk.add_table("two", IS)
        self.refused(NoBook, "tables", desk.add_table, "three", PARITY)
        trits = Desk(Form(Book(TRIT), ("a",)), bound=0)
        self.refused(NoBook, "rows", trits.add_table, "much", Table.full(TRIT, 2))
        self.refused(NoBook, "rows", trits.add_table, "much", Table.full(TRIT, 3) - Table(TRIT, 3, (("a",) * 3,)))

    def test_too_great(self):
        fields = THIRTY[:14]
        for bound in (None, 0, 2, 3):
            form = Form(Book(BITS), fields)
            desk = Desk(form, ((fields[0], "yes"),), bound=bound)
            if bound is None:
                # A choice keeps the one table, and the clash number of the other is known; both are too much.
                desk.add_table("horn", HORN)
                for name, table in (("odd", PARITY), ("either", EITHER), ("even", ~PARITY)):
                    self.fails(TooGreat, {}, desk.add_table, name, table)
                self.refused(NoBook, "name", desk.add_table, "horn", PARITY)
                self.check(desk, over(form, desk.form.book), ((fields[0], "yes"),), None, whole=False)
                desk.drop_table("horn")
                desk.add_table("either", EITHER)
                self.fails(TooGreat, {}, desk.add_table, "horn", HORN)
                desk.drop_field(fields[1])
                desk.add_table("horn", HORN)
                self.fails(TooGreat, {}, desk.add_field, fields[1])
                desk.drop_table("either")
                desk.add_field(fields[1])
                self.assertEqual([desk.form.book.names, desk.form.fields], [("horn",), fields])
            else:
                with self.assertRaises(MoreThan):
                    desk.add_table("odd", PARITY)
                self.check(desk, form, ((fields[0], "yes"),), bound, whole=False)

    def test_more_than_comes_before_too_great(self):
        desk = Desk(Form(PAIRS, THIRTY[:14]), bound=2)
        with self.assertRaises(MoreThan) as caught:
            desk.add_table("odd", PARITY)
        self.assertTrue(is_worst(PAIRS.with_table("odd", PARITY), 2, caught.exception.worst))
        desk.bound = None
        self.fails(TooGreat, {}, desk.add_table, "odd", PARITY)
        self.assertEqual(examine_narrowing(PAIRS.with_table("odd", PARITY))[0], "blind")
        self.check(desk, Form(PAIRS, THIRTY[:14]), (), None, whole=False)


class SequenceTests(DeskChecks, unittest.TestCase):
    WRONG = (None, True, 0, "", "x", "b", [], ("a",), {"a": 1}, COAT, EITHER, nested(40))

    def some_call(self, source, form):
        """A call of a method that changes a desk, or of a trial, with arguments that are right or not."""
        wrong = source.random() < 0.2
        names = form.fields or ("a",)
        field = source.choice(self.WRONG) if wrong else source.choice(names)
        value = source.choice(self.WRONG) if source.random() < 0.1 else source.choice(form.book.domain)
        rules = []
        for _ in range(source.randint(0, 2)):
            name = source.choice(form.book.names) if form.book.names else "none"
            width = form.book[name].width if form.book.names else 1
            some = (name, tuple(source.choice(names) for _ in range(width)))
            rules.append(source.choice(self.WRONG) if source.random() < 0.1 else some)
        drops = list(form.rules)[:source.randint(0, 2)] if source.random() < 0.7 else rules
        tables = [table for _, table in some_book(source, form.book.domain).tables]
        table = source.choice(self.WRONG) if wrong or not tables else tables[0]
        new = source.choice(("d", "e", "h", "one", "two") + self.WRONG)
        return source.choice((
            ("answer", field, value), ("answer", field, value), ("take_back", field), ("take_back",),
            ("trial", (field, value), (source.choice(names), source.choice(form.book.domain))),
            ("add_rules", *rules), ("drop_rules", *drops), ("add_field", new), ("drop_field", field),
            ("hide", field), ("show", field), ("add_table", new, table), ("set_bound", source.choice((None, 0, 1, 2, 3, new))),
            ("drop_table", source.choice(form.book.names + (new,))),
        ))

    def test_any_sequence(self):
        source = random.Random(90)
        done, refused = {}, {}
        for at in range(100):
            book = source.choice(BOOKS)[0] if at % 2 else some_book(source, source.choice((BITS, BITS, TRIT, ("x",))))
            form = some_form(source, book, 3)
            if not all_fillings(form):
                continue
            desk = Desk(form)
            for _ in range(25):
                call = self.some_call(source, desk.form)
                if call[0] == "add_field" and len(desk.form.fields) > 4:
                    continue
                kept = self.call(desk, *call)
                counts = done if kept else refused
                counts[call[0]] = counts.get(call[0], 0) + 1
            # The desk answers as a new one does.
            self.check(desk, desk.form, desk.answers, desk.bound)
            new = Desk(desk.form, desk.answers, bound=desk.bound)
            self.assertEqual([new.settled, list(new), len(new)], [desk.settled, list(desk), len(desk)])
        # Each method was called with right arguments, and with wrong ones.
        self.assertEqual([len(done), len(refused)], [12, 12])
        self.assertGreater(min(list(done.values()) + list(refused.values())), 10)

    def test_changes_that_are_taken_back(self):
        for desk, form, answers, bound in standing_desks(91, 80):
            before = state(desk)
            kept = desk.settled
            desk.add_field("x")
            desk.add_field("y", hidden=True)
            if len(form.book.names) < 4:
                desk.add_table("table", Table.full(form.book.domain, 1))
                desk.add_rules(("table", ("x",)), ("table", ("y",)))
                desk.drop_rules(("table", ("y",)), ("table", ("x",)))
                desk.drop_table("table")
            desk.show("y")
            desk["y"] = form.book.domain[0]
            desk.take_back("y")
            for field in ("x", "y"):
                desk.hide(field)
                desk.drop_field(field)
            for field in list(desk):
                value = desk[field]
                desk.take_back(field)
                desk[field] = value
            self.assertEqual(state(desk), before)
            self.assertEqual(desk.settled, kept)
            self.check(desk, form, answers, bound)

    def test_refused_changes(self):
        desk = Desk(COAT, (("a", "no"),), bound=2)
        calls = (
            (Clash, desk.answer, "c", "yes"), (NoField, desk.answer, "b", "no"), (NoValue, desk.answer, "a", "x"),
            (NoAnswer, desk.take_back, "a", "c"), (MoreThan, desk.set_bound, 1), (NoBound, desk.set_bound, 4),
            (Clash, desk.trial, ("a", "yes"), ("c", "yes"), ("a", "no")), (Clash, desk.add_rules, ("either", ("a", "c"))),
            (NoForm, desk.add_rules, ("either", ("a", "b")), 1), (NoForm, desk.drop_rules, COAT.rules[0], 1),
            (NoForm, desk.add_field, "a"), (InUse, desk.drop_field, "a"), (InUse, desk.hide, "a"), (NoField, desk.show, "a"),
            (MoreThan, desk.add_table, "odd", PARITY), (NoBook, desk.add_table, "either", EITHER),
            (InUse, desk.drop_table, "either"),
        )
        for error, call, *told in calls:
            before = state(desk)
            with self.assertRaises(error):
                call(*told)
            self.assertEqual(state(desk), before)
            self.check(desk, COAT, (("a", "no"),), 2)

    def test_two_desks_of_one_form(self):
        one, two = Desk(COAT), Desk(COAT)
        one["a"] = "no"
        two["c"] = "yes"
        two.add_field("x")
        self.check(one, COAT, (("a", "no"),), None)
        self.assertEqual([two.answers, COAT.fields], [(("c", "yes"),), ("a", "b", "c")])

    def test_what_returns_nothing(self):
        desk = Desk(COAT)
        told = [
            desk.answer("a", "no"), desk.take_back("a"), desk.set_bound(3), desk.add_rules(("either", ("b", "b"))),
            desk.drop_rules(("either", ("b", "b"))), desk.add_field("x"), desk.hide("x"), desk.show("x"), desk.drop_field("x"),
            desk.add_table("is", IS), desk.drop_table("is"),
        ]
        self.assertEqual(told, [None] * len(told))


class LimitTests(DeskChecks, unittest.TestCase):
    def test_a_hundred_changes_of_sixteen_fields(self):
        source = random.Random(92)
        for book, number, exact in BOOKS:
            if not book.names or number is None and not exact:
                continue
            many = 10 if number == 3 else 16
            form = Form(book, THIRTY[:many], hidden=THIRTY[:3])
            desk = Desk(form, bound=number)
            refused = 0
            for at in range(100):
                name = source.choice(book.names)
                rule = (name, tuple(source.sample(form.fields, book[name].width)))
                try:
                    if at % 3 == 0 and len(desk.form.rules) < 60:
                        desk.add_rules(rule)
                    elif at % 3 == 1:
                        desk[source.choice(form.shown)] = source.choice(book.domain)
                    elif at % 7 == 0 and len(desk):
                        desk.take_back(list(desk)[0])
                    elif at % 7 == 1:
                        desk.drop_rules(*desk.form.rules[:4])
                    else:
                        desk.trial(*[(field, source.choice(book.domain)) for field in source.sample(form.shown, 3)])
                except Clash as error:
                    refused += 1
                    self.assertLessEqual(len(error.pairs), many if number is None else number)
            new = Desk(desk.form, desk.answers, bound=number)
            self.assertEqual([new.settled, new.answers], [desk.settled, desk.answers])
            self.assertEqual(standing(desk.form, desk.answers)[0], "stands")
            for field in form.shown:
                self.assertEqual(new.open_values(field), desk.open_values(field))
                for value in book.domain:
                    pairs = desk.why_not(field, value)
                    self.assertEqual(pairs is None, value in desk.open_values(field))
                    if pairs is not None:
                        self.assertEqual(standing(desk.form, pairs)[0], "clashes")
                        for pair in pairs:
                            fewer = tuple(other for other in pairs if other != pair)
                            self.assertEqual(standing(desk.form, fewer)[0], "stands")

    def test_almost_too_great(self):
        rules = [("odd", some) for some in zip(THIRTY[:13], THIRTY[1:13], THIRTY[2:13])]
        desk = Desk(ALMOST, ((THIRTY[0], "no"), (THIRTY[1], "no")))
        desk.add_rules(*rules)
        self.assertEqual(desk.settled, tuple((field, ("no", "no", "yes")[at % 3]) for at, field in enumerate(THIRTY[:13]))[2:])
        self.assertEqual(desk.why_not(THIRTY[12], "yes"), ((THIRTY[0], "no"), (THIRTY[12], "yes")))
        pairs = list(zip(THIRTY[:8], THIRTY[1:8])) + list(zip(THIRTY[:8], THIRTY[2:8]))
        colours = Form(COLOURS, THIRTY[:8], *[("unlike", pair) for pair in pairs])
        desk = Desk(colours, ((THIRTY[0], "a"), (THIRTY[1], "b")))
        self.assertEqual(len(desk.settled), 6)
        self.assertIs(number_tried(COLOURS), None)


if __name__ == "__main__":
    unittest.main()
