"""Point 3: all modules together; and that what the interface lists is there."""

import ast
import importlib
import inspect
import random
import unittest
from itertools import combinations, product
from pathlib import Path

import clashnumber
from brute import (
    BOOKS, all_answers, all_fillings, all_least_clashes, all_sets, having, is_derivation, number_tried, shown_rows, some_book,
    some_form, some_forms,
)
from clashnumber.clashes import least_clash, least_clash_holds, least_clashes
from clashnumber.desks import Desk
from clashnumber.errors import Clash, NoClash, NoNumber
from clashnumber.forms import Form, fillings, is_filling
from clashnumber.growing import closing, derived_table, greatest_tables, greatest_values, written_out
from clashnumber.narrowing import blind_holds, examine_narrowing, narrowed
from clashnumber.numbers import clash_number, examine, worst_holds
from clashnumber.shorts import Short, parted
from clashnumber.standing import derivation_holds, is_great, standing
from samples import BITS, COAT, PAIRS, TRIT, Checks, state

ROOT = Path(clashnumber.__file__).resolve().parent
FUNCTIONS = {
    "forms": {"is_filling": "form thing", "is_answers": "form thing", "fillings": "form answers=()"},
    "standing": {"standing": "form answers=()", "derivation_holds": "form answers thing", "is_great": "form"},
    "clashes": {"least_clash": "form answers", "least_clash_holds": "form thing", "least_clashes": "form"},
    "numbers": {"examine": "book most", "clash_number": "book", "worst_holds": "book most thing"},
    "narrowing": {"narrowed": "form answers=()", "examine_narrowing": "book", "blind_holds": "book thing"},
    "shorts": {"parted": "short other"},
    "growing": {
        "derived_table": "form *fields", "written_out": "form name part *fields", "closing": "vote table",
        "closing_holds": "vote table thing", "greatest_tables": "book most", "greatest_values": "book most",
    },
}
CLASSES = {
    "tables": {"Table": {
        "__init__": "domain width rows=()", "__contains__": "row", "__len__": "", "__iter__": "", "__eq__": "other",
        "__and__": "other", "__or__": "other", "__sub__": "other", "__mul__": "other", "__invert__": "", "column": "place",
        "picked": "*places", "cut": "values", "full": "domain width", "product": "domain *columns",
    }},
    "books": {"Book": {
        "__init__": "domain tables=()", "__getitem__": "name", "__contains__": "name", "__len__": "", "__iter__": "",
        "__eq__": "other", "with_table": "name table", "only": "*names", "cut": "values", "read": "text",
    }},
    "forms": {"Form": {
        "__init__": "book fields *rules hidden=()", "__eq__": "other", "__and__": "other", "with_rules": "*rules",
        "without_rules": "*rules", "hiding": "*fields", "renamed": "field name", "read": "book text",
    }},
    "operations": {
        "Vote": {
            "__init__": "domain count results", "__eq__": "other", "__call__": "some", "middle": "domain",
            "rows_voted": "*rows", "keeps": "table", "broken": "table", "keeps_book": "book",
        },
        "Choice": {
            "__init__": "domain results", "__eq__": "other", "__call__": "some", "least": "domain", "keeps": "table",
            "broken": "table", "keeps_book": "book", "filling": "form answers=()",
        },
    },
    "shorts": {"Short": {
        "__init__": "form", "__eq__": "other", "__contains__": "answers", "__and__": "other", "rows_of": "*fields",
        "completed": "*answers", "hiding": "*fields",
    }},
    "desks": {"Desk": {
        "__init__": "form answers=() bound=None", "__getitem__": "field", "__setitem__": "field value",
        "__contains__": "field", "__len__": "", "__iter__": "", "form": "", "answers": "", "settled": "", "bound": "", "set_bound": "bound",
        "answer": "field value", "take_back": "*fields", "open_values": "field", "why_not": "field value", "filling": "",
        "trial": "*answers", "add_rules": "*rules", "drop_rules": "*rules", "add_field": "field hidden=False",
        "drop_field": "field", "hide": "field", "show": "field", "add_table": "name table", "drop_table": "name",
    }},
}


def told(function):
    """The parameters of a function, without the one for the object or the class."""
    words = [str(some) for some in inspect.signature(function).parameters.values()]
    return " ".join(word for word in words if word not in ("self", "cls"))


class InterfaceTests(unittest.TestCase):
    def test_functions(self):
        for name, listed in FUNCTIONS.items():
            module = importlib.import_module("clashnumber." + name)
            defined = {node.name for node in ast.parse((ROOT / (name + ".py")).read_text()).body if hasattr(node, "name")}
            for function, parameters in listed.items():
                self.assertIn(function, defined)
                self.assertEqual(told(getattr(module, function)), parameters, function)

    def test_classes(self):
        for name, listed in CLASSES.items():
            module = importlib.import_module("clashnumber." + name)
            bodies = {
                node.name: {part.name for part in node.body if isinstance(part, ast.FunctionDef)}
                for node in ast.parse((ROOT / (name + ".py")).read_text()).body if isinstance(node, ast.ClassDef)
            }
            for word, methods in listed.items():
                for method, parameters in methods.items():
                    self.assertIn(method, bodies[word], word)
                    found = inspect.getattr_static(getattr(module, word), method)
                    function = getattr(found, "fget", None) or getattr(found, "__func__", found)
                    self.assertEqual(told(function), parameters, method)

    def test_attributes(self):
        short, desk = Short(COAT), Desk(COAT)
        self.assertEqual([short.book, short.fields, short.length, short.stands], [PAIRS, ("a", "c"), 2, True])
        self.assertEqual([desk.form, desk.answers, desk.settled, desk.bound], [COAT, (), (), None])
        self.assertTrue(all(isinstance(getattr(Desk, name), property) for name in ("form", "answers", "settled", "bound")))


class GuaranteeTests(Checks, unittest.TestCase):
    def agree(self, form, answers, found):
        """Whatever tells of answers whether they stand says the same."""
        stands = having(form, found, answers) != []
        number = clash_number(form.book)
        word, thing = standing(form, answers)
        self.assertEqual(word == "stands", stands, form.text)
        self.assertEqual(next(fillings(form, answers), None) is not None, stands)
        if stands:
            self.assertTrue(is_filling(form, thing))
            self.fails(NoClash, {"found": Desk(form, answers).filling()}, least_clash, form, answers)
        else:
            self.assertTrue(derivation_holds(form, answers, thing))
            clash, _, _ = least_clash(form, answers)
            self.assertTrue(least_clash_holds(form, least_clash(form, answers)))
            self.assertIn(clash, least_clashes(form))
            self.assertTrue(number is None or len(clash) <= number)
            with self.assertRaises(Clash) as caught:
                Desk(form, answers)
            self.assertIn(caught.exception.pairs, least_clashes(form))
        if number is not None:
            self.assertIs(answers in Short(form), stands)
        if 0 < len(answers) < 4:
            fields, row = zip(*answers)
            self.assertIs(row in derived_table(form, *fields), stands)
        how, choice = examine_narrowing(form.book)
        left = narrowed(form, answers)
        if how == "exact":
            self.assertEqual(() not in left, stands)
            filling = choice.filling(form, answers)
            self.assertEqual(filling in having(form, found, answers) if stands else filling is None, True)
        elif () in left:
            self.assertFalse(stands)

    def test_small_forms(self):
        source = random.Random(101)
        for form in some_forms(102, 130):
            found = all_fillings(form)
            before = state(form)
            some = all_answers(form)
            for answers in source.sample(some, min(9, len(some))):
                self.agree(form, answers, found)
            self.assertEqual(state(form), before)

    def test_numbers_votes_and_worst_forms(self):
        source = random.Random(103)
        for at in range(60):
            book = source.choice(BOOKS)[0] if at % 2 else some_book(source, source.choice((BITS, TRIT)))
            number = clash_number(book)
            self.assertEqual(number, number_tried(book))
            for most in range(4 if len(book.domain) < 3 else 3):
                word, thing = examine(book, most)
                self.assertEqual(word == "at most", number is not None and number <= most)
                if word == "more":
                    self.assertTrue(worst_holds(book, most, thing))
                    form, answers, _, derivation = thing
                    self.assertTrue(is_derivation(form, answers, derivation))
                    # A form that the library returned may be passed to it.
                    self.assertEqual(standing(form, answers)[0], "clashes")
                    if not is_great(form):
                        self.assertGreater(len(least_clash(form, answers)[0]), most)
                        self.assertGreater(max(len(clash) for clash in least_clashes(form)), most)
                elif most > 1:
                    self.assertTrue(thing.keeps_book(book))
                    for _, table in book.tables:
                        self.assertEqual(closing(thing, table), (table, ()))
                    form = some_form(source, book, 4)
                    found = all_fillings(form)
                    for _ in range(10 if found else 0):
                        rows = [source.choice(found) for _ in range(most + 1)]
                        self.assertIn(thing.rows_voted(*rows), found)

    def test_blind_forms_are_not_seen_by_narrowing(self):
        for book, number, exact in BOOKS:
            word, thing = examine_narrowing(book)
            self.assertEqual(word, "exact" if exact else "blind")
            if word == "blind":
                form, answers, _ = thing
                self.assertTrue(blind_holds(book, thing))
                self.assertNotIn((), narrowed(form, answers))
                self.assertEqual(standing(form, answers)[0], "clashes")
                if number is not None:
                    self.assertIs(answers in Short(form), False)

    def test_no_least_clash_has_more_answers_than_the_number(self):
        source = random.Random(104)
        for book, number, _ in BOOKS:
            for _ in range(4 if number is not None else 0):
                form = some_form(source, book, 4)
                clashes = least_clashes(form)
                self.assertEqual(clashes, all_least_clashes(form))
                self.assertTrue(all(len(clash) <= number for clash in clashes))
                # The least clashes tell what short tables tell.
                for answers in all_answers(form):
                    told_by_clashes = not any(set(clash) <= set(answers) for clash in clashes)
                    self.assertIs(answers in Short(form), told_by_clashes)


class ChangeTests(Checks, unittest.TestCase):
    def same(self, form, other):
        """Forms with the same shown fields in which the same answers stand."""
        self.assertEqual(form.shown, other.shown)
        self.assertEqual(shown_rows(form), shown_rows(other))
        for answers in all_answers(form)[:40]:
            self.assertEqual(standing(form, answers)[0], standing(other, answers)[0])
        if clash_number(form.book) is not None and form.book == other.book:
            self.assertIs(parted(Short(form), Short(other)), None)
            self.assertEqual(Short(form), Short(other))

    def test_renamed_and_hidden(self):
        for form in some_forms(105, 80):
            for field in form.hidden:
                self.same(form, form.renamed(field, "zzz"))
            for field in form.shown[:2]:
                other = form.renamed(field, "zzz")
                names = tuple(sorted("zzz" if name == field else name for name in form.shown))
                self.assertEqual(other.shown, names)
                rows = [dict(zip(form.shown, row)) for row in shown_rows(form)]
                told_rows = [tuple(row[field if name == "zzz" else name] for name in names) for row in rows]
                self.assertEqual(shown_rows(other), tuple(sorted(told_rows)))
                self.assertEqual(len(least_clashes(form)), len(least_clashes(other)))
                hidden = form.hiding(field)
                rest = [clash for clash in least_clashes(form) if field not in dict(clash)]
                self.assertTrue(set(rest) <= set(least_clashes(hidden)))
                self.assertEqual(len(rest), len(least_clashes(hidden)))

    def test_written_out(self):
        source = random.Random(106)
        many = 0
        for part in some_forms(107, 200):
            if not part.shown or len(part.book.names) > 3:
                continue
            fields = tuple(source.sample(part.shown, min(len(part.shown), source.randint(1, 3))))
            table = derived_table(part, *fields)
            if len(table) > 8:
                continue
            book = part.book.with_table("derived", table)
            many += 1
            # The clash number does not become greater, and narrowing stays exact.
            number, more = clash_number(part.book), clash_number(book)
            self.assertTrue(number is None or more <= number)
            choice = examine_narrowing(part.book)
            if choice[0] == "exact":
                self.assertEqual([choice[1].keeps_book(book), examine_narrowing(book)[0]], [True, "exact"])
            for most in range(2, 4 if len(book.domain) < 3 else 3):
                word, vote = examine(part.book, most)
                self.assertTrue(word == "more" or vote.keeps_book(book))
            form = some_form(source, book, 2)
            if form.fields:
                form = form.with_rules(("derived", tuple(source.choice(form.fields) for _ in fields)))
            written = written_out(form, "derived", part, *fields)
            for answers in all_answers(form):
                self.assertEqual(standing(form, answers)[0], standing(written, answers)[0])
            if number is not None:
                for size in range(1, 3):
                    for some in combinations(form.shown, size):
                        self.assertEqual(Short(form).rows_of(*some), Short(written).rows_of(*some))
            if form.shown:
                self.assertEqual(derived_table(form, *form.shown[:2]), derived_table(written, *form.shown[:2]))
        self.assertGreater(many, 60)

    def test_a_derived_rule_is_a_join_with_hidden_fields(self):
        table = derived_table(COAT, "a", "c")
        book = PAIRS.with_table("coat", table)
        form = Form(book, ("x", "y", "z"), ("coat", ("x", "y")), ("coat", ("y", "z")))
        left = Form(PAIRS, ("x", "h", "y"), ("either", ("x", "h")), ("notboth", ("h", "y")), hidden=("h",))
        right = Form(PAIRS, ("y", "i", "z"), ("either", ("y", "i")), ("notboth", ("i", "z")), hidden=("i",))
        self.assertEqual(shown_rows(form), shown_rows(left & right))
        written = written_out(form, "coat", COAT, "a", "c")
        self.assertEqual(Short(written), Short(left) & Short(right))
        self.assertEqual(Short(form).rows_of("x", "z"), (Short(left) & Short(right)).hiding("y").rows_of("x", "z"))

    def test_parts_of_books(self):
        source = random.Random(108)
        for at in range(50):
            book = source.choice(BOOKS)[0] if at % 2 else some_book(source, source.choice((BITS, BITS, TRIT)))
            for names in [()] + all_sets(book.names):
                part = book.only(*names)
                for most in range(4 if len(book.domain) < 3 else 3):
                    if examine(book, most)[0] == "at most":
                        self.assertEqual(examine(part, most)[0], "at most")
            for most in range(3):
                for names in greatest_tables(book, most):
                    self.assertEqual(examine(book.only(*names), most)[0], "at most")
                for values in greatest_values(book, most):
                    part = book.cut(values)
                    self.assertEqual(examine(part, most)[0], "at most")
                    form = some_form(source, part, 3)
                    wide = Form(book, form.fields, *form.rules, hidden=form.hidden)
                    # The fillings of the part are those that have only its values.
                    inside = [some for some in all_fillings(wide) if all(value in values for value in some)]
                    self.assertEqual(list(fillings(form)), inside)

    def test_a_form_over_fewer_tables(self):
        for form in some_forms(109, 60):
            used = sorted({name for name, _ in form.rules})
            part = form.book.only(*used)
            small = Form(part, form.fields, *form.rules, hidden=form.hidden)
            self.same(form, small)
            try:
                known = Short(form)
            except NoNumber:
                continue
            for some in combinations(form.shown, 2):
                self.assertEqual(known.rows_of(*some), Short(small).rows_of(*some))

    def test_desks_and_short_tables(self):
        source = random.Random(110)
        for form in some_forms(111, 120):
            if clash_number(form.book) is None or not all_fillings(form):
                continue
            desk, short = Desk(form), Short(form)
            for field in form.shown:
                self.assertEqual(desk.open_values(field), tuple(row[0] for row in short.rows_of(field)))
            settled = tuple((field, short.rows_of(field)[0][0]) for field in form.shown if len(short.rows_of(field)) == 1)
            self.assertEqual(desk.settled, settled)
            for _ in range(4 if form.shown else 0):
                field, value = source.choice(form.shown), source.choice(form.book.domain)
                pairs = desk.why_not(field, value)
                others = tuple(pair for pair in desk.answers if pair[0] != field)
                self.assertIs(tuple(sorted(others + ((field, value),))) in short, pairs is None)
                if pairs is None:
                    desk[field] = value
            self.assertIn(desk.answers, short)
            values = short.completed(*desk.answers)
            for pair in zip(form.shown, values):
                desk.answer(*pair)
            self.assertEqual([len(desk), desk.settled], [len(form.shown), ()])


class NothingChangesTests(Checks, unittest.TestCase):
    def test_nothing_that_is_passed_is_changed(self):
        source = random.Random(112)
        for form in some_forms(113, 40):
            book = form.book
            answers = source.choice(all_answers(form))
            before = state([form, book, answers])
            found = [narrowed(form, answers), examine_narrowing(book), clash_number(book), standing(form, answers)]
            for most in range(3):
                found += [examine(book, most), greatest_tables(book, most), greatest_values(book, most)]
            found += [derived_table(form, *form.shown[:2])] if form.shown else []
            self.assertEqual(state([form, book, answers]), before)
            again = [narrowed(form, answers), examine_narrowing(book), clash_number(book), standing(form, answers)]
            for most in range(3):
                again += [examine(book, most), greatest_tables(book, most), greatest_values(book, most)]
            again += [derived_table(form, *form.shown[:2])] if form.shown else []
            # What is called again returns the same.
            self.assertEqual(state(found), state(again))

    def test_the_products_of_values(self):
        # All that two fields can have is told in the same way by each part of the program.
        for form in some_forms(114, 60):
            if len(form.shown) > 1:
                one, two = form.shown[:2]
                table = derived_table(form, two, one)
                for row in product(form.book.domain, repeat=2):
                    answers = tuple(sorted(zip((two, one), row)))
                    self.assertEqual(row in table, standing(form, answers)[0] == "stands")
                    self.assertEqual(row in table, not any(set(clash) <= set(answers) for clash in least_clashes(form)))


if __name__ == "__main__":
    unittest.main()
