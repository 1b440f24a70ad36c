"""Points 6, 7 and 16: forms, fillings, answers, and joins."""

import inspect
import unittest
from itertools import combinations, product

from clashnumber.books import Book
from clashnumber.errors import NoForm
from clashnumber.forms import Form, fillings, is_answers, is_filling
from clashnumber.tables import Table
from samples import BITS, COAT, EITHER, NOTBOTH, OBJECTS, PAIRS, STRANGE, THIRTY, TRIT, Checks, state

ABC = ("a", "b", "c")
RULE = ("either", ("a", "b"))
ODDS = Table(BITS, 3, (("no", "no", "yes"), ("no", "yes", "no"), ("yes", "no", "no"), ("yes", "yes", "yes")))
ALL = Book(BITS, (("either", EITHER), ("is", Table(BITS, 1, (("yes",),))), ("never", Table(BITS, 2)), ("odd", ODDS)))
NEXT = Book(TRIT, (("next", Table(TRIT, 2, (("a", "b"), ("b", "c"), ("c", "a")))),))
WRONG_RULES = STRANGE + OBJECTS + (
    ["either", ("a", "b")], ("either", ["a", "b"]), ("either", ("a",)), ("either", ("a", "b", "c")), ("either", ()),
    ("either", ("a", "d")), ("either", ("a", True)), ("either", ("a", ["b"])), ("both", ("a", "b")),
    ("either",), ("either", "a", "b"), ("either", ("a", "b"), 1), (("a", "b"), "either"), ((), ()), "either",
    (["either"], ("a", "b")), (EITHER, ("a", "b")), ("either", "ab"), ("either", ("a", PAIRS)), ("either", ("a", "")),
    ("either", ("a", "b") * 10000), ("either", None), (None, ("a", "b")), (True, ("a", "b")), (RULE,), (RULE, RULE),
)


def some_forms():
    """Forms with up to four fields, of several books, with fields that stand twice or in no rule."""
    yield Form(PAIRS, ())
    yield Form(PAIRS, ("a",))
    yield Form(PAIRS, ("a",), ("either", ("a", "a")))
    yield Form(PAIRS, ("a",), ("either", ("a", "a")), ("notboth", ("a", "a")))
    yield COAT
    yield COAT.hiding("a", "b", "c")
    yield Form(ALL, ("d", "c", "a"), ("odd", ("a", "d", "a")), ("either", ("c", "c")))
    yield Form(ALL, ("a", "b", "c", "d"), ("odd", ("d", "a", "c")), ("is", ("b",)), ("either", ("c", "d")))
    yield Form(ALL, ("a", "b"), ("never", ("b", "a")))
    yield Form(ALL, ("a", "b"), ("is", ("b",)), ("is", ("a",)), hidden=("a",))
    yield Form(NEXT, ("x", "y", "z"), ("next", ("x", "y")), ("next", ("z", "y")))
    yield Form(NEXT, ("x", "y"), ("next", ("x", "y")), ("next", ("y", "x")), hidden=("y", "x"))
    yield Form(Book(("only",)), ("p", "q"))


def is_allowed(form, filling):
    """Point 6, straight from its words."""
    value_of = dict(zip(form.fields, filling))
    return all(tuple(value_of[field] for field in fields) in form.book[name].rows for name, fields in form.rules)


class MadeTests(Checks, unittest.TestCase):
    def test_the_example(self):
        self.assertEqual(
            [COAT.shown, COAT.rules[1], list(fillings(COAT, (("a", "no"),)))],
            [("a", "c"), ("notboth", ("b", "c")), [("no", "yes", "no")]],
        )

    def test_attributes(self):
        rules = (("notboth", ("c", "a")), ("either", ("b", "b")), ("notboth", ("c", "a")), ("either", ("a", "c")))
        form = Form(PAIRS, ("c", "a", "b"), *rules, hidden=("c", "b"))
        self.assertEqual(form.book, PAIRS)
        self.assertEqual([form.fields, form.hidden, form.shown], [ABC, ("b", "c"), ("a",)])
        self.assertEqual(form.rules, (("either", ("a", "c")), ("either", ("b", "b")), ("notboth", ("c", "a"))))
        self.assertEqual(sorted(vars(form)), ["book", "fields", "hidden", "rules", "shown", "text"])

    def test_without_fields(self):
        for form in (Form(PAIRS, ()), Form(book=PAIRS, fields=()), Form(PAIRS, (), hidden=())):
            self.assertEqual([form.fields, form.hidden, form.shown, form.rules], [(), (), (), ()])

    def test_thirty_fields(self):
        rules = tuple(("odd", some) for some in zip(THIRTY, THIRTY[1:], THIRTY[2:]))
        form = Form(ALL, THIRTY[::-1], *rules, hidden=THIRTY)
        self.assertEqual([form.fields, form.hidden, form.shown], [tuple(sorted(THIRTY)), tuple(sorted(THIRTY)), ()])
        self.assertEqual(form.rules, tuple(sorted(rules)))
        self.refused(NoForm, "fields", Form, ALL, THIRTY + ("x",))

    def test_many_rules(self):
        rules = tuple(("either", some) for some in product(THIRTY, repeat=2))
        form = Form(PAIRS, THIRTY, *rules, *rules)
        self.assertEqual(form.rules, tuple(sorted(rules)))
        self.assertEqual(form.without_rules(*rules), Form(PAIRS, THIRTY))

    def test_wrong_fields(self):
        wrong = [thing for thing in STRANGE + OBJECTS if thing != ()] + [
            ["a", "b"], "ab", {"a": 1}, ("a", "a"), ("a", "b", "a"), ("",), ("ninechars",), ("A",), ("a ",),
            (True,), ("a", 1), ("a", ["b"]), (("a",),), (EITHER,), ("a", {}), THIRTY + ("zz",), THIRTY + ("fa",),
            ("a",) * 20000,
        ]
        self.refused_each(NoForm, "fields", lambda thing: Form(PAIRS, thing), wrong)
        self.refused_each(NoForm, "fields", lambda thing: Form(book=PAIRS, fields=thing, hidden=()), wrong)

    def test_wrong_hidden(self):
        wrong = [thing for thing in STRANGE + OBJECTS if thing != ()] + [
            ["a"], "a", ("d",), ("a", "a"), ("a", "d"), ("a", ["b"]), (["a"],), ({},), (("a",),), (True,), ("",),
            ("a", "b", "c", "a"), (COAT,), {"a": 1}, ("a",) * 20000,
        ]
        self.refused_each(NoForm, "hidden", lambda thing: Form(PAIRS, ABC, hidden=thing), wrong)
        self.refused_each(NoForm, "hidden", lambda thing: Form(PAIRS, ABC, RULE, hidden=thing), wrong)

    def test_wrong_rules(self):
        self.refused_each(NoForm, "rule", lambda thing: Form(PAIRS, ABC, thing), WRONG_RULES)
        self.refused_each(NoForm, "rule", lambda thing: Form(PAIRS, ABC, RULE, thing, RULE, hidden=ABC), WRONG_RULES)
        self.refused(NoForm, "rule", Form, Book(BITS), ABC, RULE)
        self.refused(NoForm, "rule", Form, PAIRS, (), ("either", ()))

    def test_the_first_of_several_errors(self):
        self.refused(NoForm, "fields", Form, PAIRS, ["a"], RULE, None, hidden=["a"])
        self.refused(NoForm, "fields", Form, PAIRS, THIRTY + ("zz",), hidden=("b",))
        self.refused(NoForm, "fields", Form, PAIRS, ("a", "a"), ("either", ("a", "b")))
        self.refused(NoForm, "hidden", Form, PAIRS, ("a",), RULE, hidden=("b",))
        self.refused(NoForm, "hidden", Form, PAIRS, ABC, None, hidden=None)

    def test_hidden_goes_by_name_only(self):
        self.refused(NoForm, "rule", Form, PAIRS, ABC, ("b",))
        self.assertEqual(Form(PAIRS, ABC, hidden=("b",)).rules, ())


class EqualTests(Checks, unittest.TestCase):
    def test_equal(self):
        self.assertEqual(COAT, Form(PAIRS, ABC[::-1], *COAT.rules[::-1], *COAT.rules, hidden=("b",)))
        self.assertIs(COAT == Form(PAIRS, ABC, *COAT.rules, hidden=("b",)), True)
        self.assertIs(COAT != Form(PAIRS, ABC, *COAT.rules, hidden=("b",)), False)
        others = (
            Form(PAIRS, ABC, *COAT.rules), Form(PAIRS, ABC, RULE, hidden=("b",)),
            Form(PAIRS, ABC + ("d",), *COAT.rules, hidden=("b",)), Form(PAIRS, ABC, *COAT.rules, hidden=("a", "b")),
            Form(PAIRS.with_table("x", EITHER), ABC, *COAT.rules, hidden=("b",)),
        )
        for other in others:
            self.assertNotEqual(COAT, other)

    def test_equal_to_nothing_else(self):
        self.not_equal_to_others(COAT)
        self.not_equal_to_others(Form(PAIRS, ()))
        self.assertFalse(COAT == COAT.text)
        self.assertFalse(COAT == (PAIRS, ABC, COAT.rules))


class RuleTests(Checks, unittest.TestCase):
    def test_with_rules(self):
        before = state(COAT)
        more = ("either", ("c", "c"))
        self.assertEqual(COAT.with_rules(more, RULE, more), Form(PAIRS, ABC, *COAT.rules, more, hidden=("b",)))
        self.assertEqual(COAT.with_rules(), COAT)
        self.assertEqual(COAT.with_rules(*COAT.rules), COAT)
        self.assertEqual(state(COAT), before)

    def test_without_rules(self):
        before = state(COAT)
        self.assertEqual(COAT.without_rules(RULE, RULE), Form(PAIRS, ABC, COAT.rules[1], hidden=("b",)))
        self.assertEqual(COAT.without_rules(), COAT)
        self.assertEqual(COAT.without_rules(*COAT.rules), Form(PAIRS, ABC, hidden=("b",)))
        self.assertEqual(COAT.with_rules(("either", ABC[::2])).without_rules(("either", ABC[::2])), COAT)
        self.assertEqual(state(COAT), before)

    def test_refused(self):
        self.refused_each(NoForm, "rule", COAT.with_rules, WRONG_RULES)
        self.refused_each(NoForm, "rule", lambda thing: COAT.with_rules(RULE, thing, RULE), WRONG_RULES)
        self.refused_each(NoForm, "rule", COAT.without_rules, WRONG_RULES)
        self.refused_each(NoForm, "rule", lambda thing: COAT.without_rules(RULE, thing), WRONG_RULES)
        self.refused(NoForm, "rule", COAT.without_rules, ("either", ("b", "a")))
        self.refused(NoForm, "rule", COAT.without_rules, RULE, ("notboth", ("a", "b")))
        self.refused(NoForm, "rule", Form(PAIRS, ABC).without_rules, RULE)


class FieldTests(Checks, unittest.TestCase):
    def test_hiding(self):
        before = state(COAT)
        self.assertEqual(COAT.hiding("c", "b", "c"), Form(PAIRS, ABC, *COAT.rules, hidden=("b", "c")))
        self.assertEqual(COAT.hiding("a", "b", "c").shown, ())
        self.assertEqual([COAT.hiding(), COAT.hiding("b")], [COAT, COAT])
        self.assertEqual(state(COAT), before)

    def test_hiding_refused(self):
        wrong = STRANGE + OBJECTS + ("d", ("a",), ["a"], ABC)
        self.refused_each(NoForm, "hidden", COAT.hiding, wrong)
        self.refused_each(NoForm, "hidden", lambda thing: COAT.hiding("a", thing, "b"), wrong)
        self.refused(NoForm, "hidden", Form(PAIRS, ()).hiding, "a")

    def test_renamed(self):
        before = state(COAT)
        form = COAT.renamed("b", "z")
        rules = (("either", ("a", "z")), ("notboth", ("z", "c")))
        self.assertEqual(form, Form(PAIRS, ("a", "c", "z"), *rules, hidden=("z",)))
        self.assertEqual(form.renamed(name="b", field="z"), COAT)
        self.assertEqual(COAT.renamed("a", "a"), COAT)
        self.assertEqual(COAT.renamed("b", "b"), COAT)
        self.assertEqual(COAT.renamed("c", "abcdefgh").shown, ("a", "abcdefgh"))
        twice = Form(PAIRS, ("a", "b"), ("either", ("a", "a")), ("either", ("b", "a")))
        self.assertEqual(twice.renamed("a", "c").rules, (("either", ("b", "c")), ("either", ("c", "c"))))
        self.assertEqual(Form(ALL, THIRTY).renamed("fa", "zz").fields, tuple(sorted(THIRTY[1:] + ("zz",))))
        self.assertEqual(state(COAT), before)

    def test_renamed_refused(self):
        for thing in STRANGE + OBJECTS + ("b", "c", ("z",), ["z"]):
            self.refused(NoForm, "fields", COAT.renamed, "a", thing)
            self.refused(NoForm, "fields", COAT.renamed, field="a", name=thing)
            self.refused(NoForm, "fields", COAT.renamed, thing, thing) if thing not in ABC else None
        for thing in STRANGE + OBJECTS + ("d", ("a",), ["a"]):
            self.refused(NoForm, "fields", COAT.renamed, thing, "z")
            self.refused(NoForm, "fields", COAT.renamed, thing, "a")
            self.refused(NoForm, "fields", COAT.renamed, name="z", field=thing)


class JoinTests(Checks, unittest.TestCase):
    def test_joins(self):
        edge = Form(PAIRS, ("a", "c"), ("either", ("a", "c")))
        before = state([edge, COAT])
        both = Form(PAIRS, ABC, ("either", ("a", "c")), *COAT.rules, hidden=("b",))
        self.assertEqual([edge & COAT, COAT & edge], [both, both])
        self.assertEqual(COAT & Form(PAIRS, ()), COAT)
        self.assertEqual(Form(PAIRS, ()) & Form(PAIRS, ()), Form(PAIRS, ()))
        other = COAT.renamed("b", "d")
        self.assertEqual((COAT & other).hidden, ("b", "d"))
        self.assertEqual((COAT & other).rules, tuple(sorted(COAT.rules + other.rules)))
        self.assertEqual(edge & edge, edge)
        self.assertEqual(state([edge, COAT]), before)

    def test_thirty_fields(self):
        left, right = Form(PAIRS, THIRTY[:16], hidden=THIRTY[:1]), Form(PAIRS, THIRTY[14:], hidden=THIRTY[29:])
        self.assertEqual((left & right).fields, tuple(sorted(THIRTY)))
        self.assertEqual((left & right).hidden, tuple(sorted(THIRTY[:1] + THIRTY[29:])))
        self.assertEqual(Form(PAIRS, THIRTY) & Form(PAIRS, THIRTY), Form(PAIRS, THIRTY))
        self.refused(NoForm, "fields", lambda: Form(PAIRS, THIRTY) & Form(PAIRS, ("z",)))
        self.refused(NoForm, "fields", lambda: Form(PAIRS, THIRTY[:16]) & Form(PAIRS, THIRTY[16:] + ("z",)))

    def test_refused_in_their_order(self):
        self.refused_each(NoForm, "book", lambda thing: COAT & thing, STRANGE + (EITHER, PAIRS))
        other = Form(ALL, ABC, hidden=("b",))
        self.refused(NoForm, "book", lambda: COAT & other)
        self.refused(NoForm, "book", lambda: Form(ALL, THIRTY) & Form(PAIRS, ABC))
        self.refused(NoForm, "hidden", lambda: COAT & COAT)
        self.refused(NoForm, "hidden", lambda: COAT & Form(PAIRS, ("b",)))
        self.refused(NoForm, "hidden", lambda: Form(PAIRS, ("b",)) & COAT)
        full = Form(PAIRS, THIRTY)
        self.refused(NoForm, "hidden", lambda: full & Form(PAIRS, ("z", "fa"), hidden=("fa",)))
        self.refused(NoForm, "hidden", lambda: full.hiding("fa") & Form(PAIRS, ("z", "fa")))


class FillingTests(Checks, unittest.TestCase):
    def test_all_fillings(self):
        for form in some_forms():
            found = [some for some in product(form.book.domain, repeat=len(form.fields)) if is_allowed(form, some)]
            self.assertEqual(list(fillings(form)), found, form.text)
            self.assertEqual(list(fillings(form=form, answers=())), found)

    def test_fillings_with_answers(self):
        for form in some_forms():
            found = list(fillings(form))
            for many in range(len(form.shown) + 1):
                for fields in combinations(form.shown, many):
                    for values in product(form.book.domain, repeat=many):
                        answers = tuple(zip(fields, values))
                        has = [some for some in found if set(answers) <= set(zip(form.fields, some))]
                        self.assertEqual(list(fillings(form, answers)), has)

    def test_without_fields_there_is_the_empty_filling(self):
        self.assertEqual(list(fillings(Form(PAIRS, ()))), [()])

    def test_each_call_by_itself(self):
        first, second = fillings(COAT), fillings(COAT)
        self.assertTrue(inspect.isgenerator(first))
        self.assertEqual(next(first), ("no", "yes", "no"))
        self.assertEqual(next(first), ("yes", "no", "no"))
        self.assertEqual(list(second), list(fillings(COAT)))
        self.assertEqual(list(first), list(fillings(COAT))[2:])
        self.assertEqual(list(first), [])

    def test_eight_fields(self):
        form = Form(Book(BITS), tuple("hgfedcba"))
        self.assertEqual(list(fillings(form)), list(product(BITS, repeat=8)))

    def test_is_filling(self):
        for form in some_forms():
            for some in product(form.book.domain, repeat=len(form.fields)):
                self.assertIs(is_filling(form, some), is_allowed(form, some))
                self.assertIs(is_filling(thing=list(some), form=form), False)
                self.assertIs(is_filling(form, some + ("no",)), False)
        self.assertIs(is_filling(Form(PAIRS, ()), ()), True)

    def test_is_filling_of_other_things(self):
        right = ("no", "yes", "no")
        self.assertIs(is_filling(COAT, right), True)
        wrong = STRANGE + OBJECTS + ((), ("no", "yes"), right + right, right * 7000, "no yes no", (right,))
        for thing in wrong:
            self.assertIs(is_filling(COAT, thing), False)
            for at in range(3):
                self.assertIs(is_filling(COAT, right[:at] + (thing,) + right[at + 1:]), False)


class AnswerTests(Checks, unittest.TestCase):
    def test_answers(self):
        right = ((), (("a", "no"),), (("c", "yes"),), (("a", "yes"), ("c", "yes")), (("a", "no"), ("c", "yes")))
        for thing in right:
            self.assertIs(is_answers(COAT, thing), True)
            self.assertIs(is_answers(thing=thing, form=COAT), True)
            self.assertIs(is_answers(COAT, list(thing)), False)
            self.assertIs(is_answers(COAT, tuple(list(pair) for pair in thing)), thing == ())

    def test_no_answers(self):
        wrong = [thing for thing in STRANGE + OBJECTS if thing != ()] + [
            (("b", "no"),), (("a", "no"), ("b", "no")), (("c", "no"), ("a", "no")), (("a", "no"), ("a", "yes")),
            (("a", "no"), ("a", "no")), ("a", "no"), (("a",),), (("a", "no", "no"),), (("a", "maybe"),), (("d", "no"),),
            (("no", "a"),), (("a", True),), (("a", ["no"]),), ((["a"], "no"),), (("a", "no"), None), ("ab",), ("an",),
            (("a", "no"),) * 10000, {"a": "no"}, (("a", PAIRS),), ((COAT, "no"),), (("a", ("no",)),),
        ]
        for thing in wrong:
            self.assertIs(is_answers(COAT, thing), False, repr(thing)[:60])
            self.assertIs(is_answers(COAT, (thing,)), thing == ("a", "no"), repr(thing)[:60])
            self.assertIs(is_answers(COAT, (("a", thing),)), False)
            self.assertIs(is_answers(COAT, ((thing, "no"),)), False)
        self.assertIs(is_answers(Form(PAIRS, ()), ()), True)
        self.assertIs(is_answers(COAT.hiding("a", "c"), ()), True)
        self.assertIs(is_answers(COAT.hiding("a"), (("a", "no"),)), False)

    def test_thirty_answers(self):
        form = Form(PAIRS, THIRTY)
        answers = tuple((field, "no") for field in form.fields)
        self.assertIs(is_answers(form, answers), True)
        self.assertIs(is_answers(form, answers[1:] + answers[:1]), False)
        self.assertIs(is_answers(form, answers + answers[-1:]), False)


if __name__ == "__main__":
    unittest.main()
