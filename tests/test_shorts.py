"""Points 15, 16 and 17: short tables, their join, hiding, and forms that are parted or alike."""

import random
import unittest
from itertools import combinations, permutations, product

from brute import (
    BELOW, BOOKS, NEXT, NOTALL, ODDS, TRIO, all_answers, all_fillings, all_least_clashes, having,
    number_tried, shown_rows, some_book, some_form, standing_rows,
)
from clashnumber.books import Book
from clashnumber.errors import Clash, NoForm, NoNumber
from clashnumber.forms import Form
from clashnumber.shorts import Short, parted
from clashnumber.standing import standing
from clashnumber.tables import Table
from samples import BITS, COAT, EITHER, NOTBOTH, OBJECTS, PAIRS, STRANGE, THIRTY, TRIT, Checks, state

EDGE = Form(PAIRS, ("a", "c"), ("either", ("a", "c")))
IS = Table(BITS, 1, (("yes",),))
NEVER = Book(BITS, (("either", EITHER), ("is", IS), ("never", Table(BITS, 2)), ("notboth", NOTBOTH)))
KNOWN = [book for book, number, _ in BOOKS if number is not None]
UNKNOWN = [book for book, number, _ in BOOKS if number is None]


def known_forms(seed, many, most=5):
    """So many forms over books with a known clash number."""
    source = random.Random(seed)
    while many > 0:
        book = source.choice(KNOWN) if many % 2 else some_book(source, source.choice((("x",), BITS, BITS, TRIT)))
        if many % 2 or number_tried(book) is not None:
            many -= 1
            yield some_form(source, book, most - (len(book.domain) > 2))


def apart(form, letter):
    """The form with other names for its hidden fields, all with this letter."""
    for at, field in enumerate(form.hidden):
        form = form.renamed(field, letter + "abcdefghijklmnop"[at] * 3)
    return form


class ShortChecks(Checks):
    """Checks of short tables."""

    def check(self, short, form):
        """All that short tables tell, held against the fillings of a form that has them."""
        self.assertEqual([short.book, short.fields], [form.book, form.shown])
        self.assertEqual(short.length, 3 if number_tried(form.book) == 3 else 2)
        found = all_fillings(form)
        self.assertIs(short.stands, found != [])
        self.assertEqual(short.rows_of(), ((),) if found else ())
        for size in range(1, short.length + 1):
            for fields in combinations(form.shown, size):
                rows = self.unchanged([short, fields], short.rows_of, *fields)
                self.assertEqual(rows, standing_rows(form, *fields), form.text)
                self.assertIs(rows.__class__, tuple)
        for answers in all_answers(form):
            self.assertIs(answers in short, having(form, found, answers) != [], form.text)

    def complete(self, short, form, answers):
        """What completed returns, or the error that it raises."""
        whole = {tuple(zip(form.shown, row)) for row in shown_rows(form)}
        before = state([short, answers])
        if any(set(answers) <= set(some) for some in whole):
            values = short.completed(*answers)
            self.assertIs(values.__class__, tuple)
            self.assertIn(tuple(zip(form.shown, values)), [some for some in whole if set(answers) <= set(some)])
        else:
            with self.assertRaises(Clash) as caught:
                short.completed(*answers)
            self.assertIn(caught.exception.pairs, all_least_clashes(form))
            self.assertTrue(set(caught.exception.pairs) <= set(answers))
        self.assertEqual(state([short, answers]), before)


class ShortTests(ShortChecks, unittest.TestCase):
    def test_the_examples(self):
        short = Short(COAT)
        self.assertEqual(short.rows_of("c", "a"), (("no", "no"), ("no", "yes"), ("yes", "yes")))
        self.assertEqual([short.rows_of("a"), short.stands], [(("no",), ("yes",)), True])
        self.assertIn(parted(Short(EDGE), Short(COAT)), ((("a", "no"), ("c", "no")), (("a", "no"), ("c", "yes"))))
        self.assertIs(Short(EDGE & COAT).stands, True)
        self.assertEqual((Short(EDGE) & short).rows_of("a"), (("yes",),))
        self.assertEqual([short.book, short.fields, short.length], [PAIRS, ("a", "c"), 2])

    def test_all_answers_of_small_forms(self):
        for form in known_forms(31, 140):
            self.check(self.unchanged(form, Short, form), form)

    def test_known_books(self):
        source = random.Random(32)
        for book in KNOWN:
            for _ in range(6):
                form = some_form(source, book, 4)
                self.check(Short(form=form), form)

    def test_completed(self):
        source = random.Random(33)
        for form in known_forms(34, 100):
            short = Short(form)
            some = all_answers(form)
            for answers in source.sample(some, min(25, len(some))):
                self.complete(short, form, answers)
                self.complete(short, form, answers[::-1])
                self.complete(short, form, tuple(source.sample(answers, len(answers))))

    def test_completed_by_least_clashes(self):
        notall = Form(TRIO, ("a", "b", "c", "d"), ("notall", ("a", "b", "d")), ("notall", ("c", "d", "d")))
        for form in (notall, COAT, Form(NEVER, ("a", "b"), ("is", ("a",)), ("either", ("a", "b")))):
            for clash in all_least_clashes(form):
                with self.assertRaises(Clash) as caught:
                    Short(form).completed(*clash[::-1])
                self.assertEqual(caught.exception.pairs, clash)

    def test_no_fields(self):
        for form in (Form(PAIRS, ()), Form(Book(("x",)), ()), Form(PAIRS, ("h",), hidden=("h",)), Form(TRIO, ())):
            short = Short(form)
            self.check(short, form)
            self.assertEqual([short.fields, short.stands, short.completed(), () in short], [(), True, (), True])
        never = Form(NEVER, ("h",), ("is", ("h",)), ("notboth", ("h", "h")), hidden=("h",))
        short = Short(never)
        self.check(short, never)
        self.assertEqual([short.stands, short.rows_of(), () in short], [False, (), False])
        self.fails(Clash, {"pairs": ()}, short.completed)
        self.assertEqual(parted(Short(Form(NEVER, ())), short), ())

    def test_no_filling(self):
        for form in (
            Form(NEVER, ("a", "b"), ("never", ("a", "a"))), Form(NEVER, ("a", "b"), ("never", ("a", "b"))),
            Form(NEVER, ("a", "b"), ("is", ("a",)), ("notboth", ("a", "a"))),
            Form(NEVER, ("a", "b", "c"), ("never", ("c", "c")), hidden=("c",)),
        ):
            short = Short(form)
            self.check(short, form)
            self.assertEqual([short.rows_of("a"), short.rows_of("b", "a"), short.stands], [(), (), False])
            for answers in all_answers(form):
                self.assertIs(answers in short, False)
                self.fails(Clash, {"pairs": ()}, short.completed, *answers)
            for other in (short, Short(Form(NEVER, ("c",))), Short(Form(NEVER, ()))):
                self.assertIs((short & other).stands, False)
                self.assertIs((other & short).stands, False)
            self.assertIs(short.hiding("a").stands, False)
            self.assertEqual(short.hiding("a", "b").rows_of(), ())

    def test_fields_several_times_and_without_rules(self):
        parity = Book(BITS, (("is", IS), ("same", Table(BITS, 3, (("no", "no", "no"), ("yes", "yes", "yes"))))))
        for book, rules in (
            (PAIRS, [("either", ("a", "a")), ("notboth", ("a", "b"))]), (TRIO, [("notall", ("a", "a", "b"))]),
            (TRIO, [("notall", ("b", "b", "b")), ("notall", ("a", "c", "a"))]), (parity, [("same", ("a", "b", "a"))]),
            (Book(TRIT, (("next", NEXT),)), [("next", ("a", "b"))]),
        ):
            for form in (Form(book, ("a", "b", "c"), *rules), Form(book, ("a", "b", "c"), *rules, hidden=("b",))):
                self.check(Short(form), form)

    def test_clash_number_three(self):
        form = Form(TRIO, ("a", "b", "c"), ("notall", ("a", "b", "c")))
        short = Short(form)
        self.assertEqual([short.length, len(short.rows_of("a", "b", "c"))], [3, 7])
        self.assertEqual(short.rows_of("c", "b"), tuple(product(BITS, repeat=2)))
        self.assertIs((("a", "yes"), ("b", "yes"), ("c", "yes")) in short, False)
        self.fails(Clash, {"pairs": (("a", "yes"), ("b", "yes"), ("c", "yes"))}, short.completed,
                   ("c", "yes"), ("b", "yes"), ("a", "yes"))
        self.check(short, form)

    def test_rows_in_any_order_of_the_fields(self):
        for form in known_forms(35, 40):
            short = Short(form)
            for size in range(short.length + 1):
                for fields in permutations(form.shown, size):
                    self.assertEqual(short.rows_of(*fields), standing_rows(form, *fields))

    def test_no_number(self):
        for book in UNKNOWN:
            for form in (Form(book, ()), Form(book, ("a",)), Form(book, THIRTY)):
                self.fails(NoNumber, {}, Short, form)
                self.fails(NoNumber, {}, Short, form=form)
        self.fails(NoNumber, {}, Short, Form(ODDS, THIRTY[:14]))

    def test_equality(self):
        short = Short(COAT)
        self.not_equal_to_others(short)
        self.assertEqual(short, Short(Form(PAIRS, COAT.fields, *COAT.rules, hidden=("b",))))
        self.assertEqual(short, Short(COAT.renamed("b", "h")))
        self.assertNotEqual(short, Short(EDGE))
        self.assertNotEqual(short, Short(COAT.renamed("c", "d")))
        self.assertNotEqual(Short(Form(PAIRS, ("a",))), Short(Form(PAIRS.only("either"), ("a",))))
        self.assertNotEqual(Short(Form(PAIRS, ("a",))), Short(Form(PAIRS, ())))
        self.assertNotEqual(Short(Form(NEVER, ())), Short(Form(NEVER, ("h",), ("never", ("h", "h")), hidden=("h",))))
        again = Book(BITS, (("notboth", NOTBOTH), ("either", EITHER)))
        self.assertEqual(short, Short(Form(again, COAT.fields, *COAT.rules, hidden=("b",))))
        self.assertFalse(short != Short(COAT))
        self.assertFalse(short == COAT)


class JoinTests(ShortChecks, unittest.TestCase):
    def join(self, form, other):
        """The join of short tables, held against the fillings of the join of the forms."""
        shorts = [Short(form), Short(other)]
        before = state(shorts)
        joined = shorts[0] & shorts[1]
        self.assertIs(joined.__class__, Short)
        self.assertEqual(state(shorts), before)
        whole = apart(form, "y") & apart(other, "z")
        self.check(joined, whole)
        self.assertEqual(joined, Short(whole))
        self.assertEqual(shorts[1] & shorts[0], joined)
        return joined, whole

    def test_joins_of_small_forms(self):
        source = random.Random(36)
        for form in known_forms(37, 70, 4):
            other = some_form(source, form.book, 4)
            joined, whole = self.join(form, other)
            for answers in source.sample(all_answers(whole), min(6, len(all_answers(whole)))):
                self.complete(joined, whole, answers)

    def test_without_common_fields(self):
        source = random.Random(38)
        for book in KNOWN:
            form = some_form(source, book, 3)
            other = some_form(source, book, 2)
            for field in other.fields:
                other = other.renamed(field, field + "x")
            self.join(form, other)

    def test_with_itself(self):
        for form in known_forms(39, 40, 4):
            short = Short(form)
            self.assertEqual(short & short, short)
            self.join(form, form)

    def test_hidden_fields_with_one_name(self):
        # The hidden fields b of both count as different ones; b of COAT is no field of the other form either.
        other = Form(PAIRS, ("a", "b", "c"), ("notboth", ("a", "b")), ("either", ("b", "c")), hidden=("b",))
        self.join(COAT, other)
        self.join(COAT, Form(PAIRS, ("b", "c"), ("notboth", ("b", "c"))))
        self.refused(NoForm, "hidden", lambda: COAT & other)

    def test_with_no_fields(self):
        for form in known_forms(40, 20, 4):
            short = Short(form)
            self.assertEqual(short & Short(Form(form.book, ())), short)
            self.join(form, Form(form.book, ("x", "y"), hidden=("x",)))

    def test_what_no_single_form_shows(self):
        forms = [Form(PAIRS, pair, ("either", pair), ("notboth", pair)) for pair in (("a", "b"), ("b", "c"), ("c", "a"))]
        joined, _ = self.join(forms[0], forms[1])
        self.assertEqual(joined.rows_of("a", "c"), (("no", "no"), ("yes", "yes")))
        last = joined & Short(forms[2])
        self.assertIs(last.stands, False)
        self.assertEqual([last.rows_of(), last.rows_of("a"), last.rows_of("b", "c")], [(), (), ()])
        self.assertEqual(last, Short(forms[0] & forms[1] & forms[2]))

    def test_many_joins(self):
        source = random.Random(41)
        for book in KNOWN:
            forms = [some_form(source, book, 3) for _ in range(4)]
            short, whole = Short(forms[0]), apart(forms[0], "w")
            for at, form in enumerate(forms[1:]):
                short, whole = short & Short(form), whole & apart(form, "xyz"[at])
            self.assertEqual(short, Short(whole))
            self.check(short, whole)

    def test_other_books(self):
        short = Short(COAT)
        others = [Short(Form(book, ("a", "c"))) for book in KNOWN + [PAIRS.only("either")] if book != PAIRS]
        for other in tuple(others) + STRANGE + OBJECTS[:5] + OBJECTS[6:]:
            self.refused(NoForm, "book", lambda thing: short & thing, other)
            self.refused(NoForm, "book", parted, short, other)
            self.refused(NoForm, "book", parted, other, short)
            self.refused(NoForm, "book", parted, other=short, short=other)
        self.refused(NoForm, "book", lambda: others[0] & short)


class HidingTests(ShortChecks, unittest.TestCase):
    def test_hiding(self):
        for form in known_forms(42, 70):
            short = Short(form)
            for size in range(len(form.shown) + 1):
                for fields in combinations(form.shown, size):
                    hidden = self.unchanged([short, fields], short.hiding, *fields)
                    self.assertIs(hidden.__class__, Short)
                    self.check(hidden, form.hiding(*fields))
                    self.assertEqual(hidden, Short(form.hiding(*fields)))

    def test_one_after_another(self):
        form = Form(PAIRS, ("a", "b", "c", "d"), ("either", ("a", "b")), ("notboth", ("b", "c")), ("either", ("c", "d")))
        short = Short(form)
        self.assertEqual(short.hiding("b").hiding("c"), short.hiding("c", "b"))
        self.assertEqual(short.hiding("b").hiding("c"), Short(form.hiding("b", "c")))
        self.assertEqual(short.hiding(), short)
        self.assertEqual(short.hiding("a", "b", "c", "d").fields, ())

    def test_hidden_and_joined(self):
        source = random.Random(43)
        for form in known_forms(44, 50, 4):
            other = some_form(source, form.book, 3)
            shown = [field for field in form.shown if field not in other.fields][:2]
            joined = Short(form).hiding(*shown) & Short(other)
            self.assertEqual(joined, (Short(form) & Short(other)).hiding(*shown))
            self.assertEqual(joined, Short(apart(form.hiding(*shown), "y") & apart(other, "z")))


class PartedTests(ShortChecks, unittest.TestCase):
    def part(self, form, other):
        """What parted returns, for forms with the same shown fields over one book."""
        shorts = [Short(form), Short(other)]
        pairs = self.unchanged(shorts, parted, *shorts)
        found = [all_fillings(form), all_fillings(other)]
        sizes = [
            len(answers) for answers in all_answers(form)
            if (having(form, found[0], answers) == []) != (having(other, found[1], answers) == [])
        ]
        if not sizes:
            self.assertIs(pairs, None)
            self.assertEqual(shorts[0], shorts[1])
            self.assertEqual(shown_rows(form), shown_rows(other))
        else:
            self.assertNotEqual(shorts[0], shorts[1])
            self.assertEqual(len(pairs), min(sizes))
            self.assertLessEqual(len(pairs), shorts[0].length)
            self.assertIn(pairs, all_answers(form))
            self.assertEqual([having(form, found[0], pairs) == []], [having(other, found[1], pairs) != []])
        return pairs

    def test_small_forms(self):
        source = random.Random(45)
        sizes = []
        for form in known_forms(46, 250, 4):
            fields = form.shown + tuple(field + "x" for field in form.hidden)
            other = some_form(source, form.book, 4)
            rules = [rule for rule in other.rules if set(rule[1]) <= set(form.fields)]
            extra = Form(form.book, form.fields, *rules, hidden=form.hidden)
            for some in (extra, extra.with_rules(*form.rules), form):
                pairs = self.part(form, some)
                sizes.append(None if pairs is None else len(pairs))
            self.part(form, apart(form, "x"))
            self.part(form, Form(form.book, fields, hidden=fields[len(form.shown):]))
        self.assertTrue({None, 0, 1, 2} <= set(sizes))

    def test_three_pairs(self):
        form = Form(TRIO, ("a", "b", "c"), ("notall", ("a", "b", "c")))
        self.assertEqual(self.part(form, Form(TRIO, ("a", "b", "c"))), (("a", "yes"), ("b", "yes"), ("c", "yes")))

    def test_by_name_and_in_both_orders(self):
        for pairs in (parted(other=Short(COAT), short=Short(EDGE)), parted(Short(COAT), Short(EDGE))):
            self.assertIn(pairs, ((("a", "no"), ("c", "no")), (("a", "no"), ("c", "yes"))))
        self.assertIs(parted(Short(COAT), Short(COAT.renamed("b", "x"))), None)

    def test_errors(self):
        self.refused(NoForm, "fields", parted, Short(COAT), Short(COAT.renamed("a", "x")))
        self.refused(NoForm, "fields", parted, other=Short(COAT), short=Short(Form(PAIRS, ())))
        # Both books and fields differ: the error of the books is first.
        self.refused(NoForm, "book", parted, Short(COAT), Short(Form(TRIO, ("x",))))
        self.refused(NoForm, "book", parted, Short(COAT), Short(Form(PAIRS.only("either"), ("a", "c"))))

    def test_alike_forms_stay_alike_in_joins(self):
        source = random.Random(47)
        pairs = [(COAT, COAT.renamed("b", "h"))]
        pairs += [(form, form.with_rules(*[rule for rule in form.rules[:1]])) for form in known_forms(48, 10, 3)]
        for form in known_forms(49, 40, 4):
            other = Form(form.book, form.fields, *form.rules[1:], hidden=form.hidden)
            if Short(form) == Short(other):
                pairs.append((form, other))
        self.assertGreater(len(pairs), 20)
        for form, other in pairs:
            for _ in range(5):
                third = some_form(source, form.book, 3)
                joins = [apart(some, "y") & apart(third, "z") for some in (form, other)]
                self.assertEqual(Short(form) & Short(third), Short(other) & Short(third))
                self.assertEqual(shown_rows(joins[0]), shown_rows(joins[1]))
                self.assertIs(parted(Short(joins[0]), Short(joins[1])), None)


class LimitTests(Checks, unittest.TestCase):
    def great_form(self, source, book, many, rules, hidden):
        fields = THIRTY[:many]
        some = []
        for _ in range(rules if book.names else 0):
            name = source.choice(book.names)
            some.append((name, tuple(source.sample(fields, book[name].width))))
        return Form(book, fields, *some, hidden=tuple(source.sample(fields, hidden)))

    def test_sixteen_fields_and_sixty_rules(self):
        source = random.Random(50)
        stand = 0
        for at in range(60):
            book = KNOWN[at % len(KNOWN)]
            many = 10 if number_tried(book) == 3 else 16
            form = self.great_form(source, book, many, (8, 12, 60)[at % 3], at % 5)
            short = Short(form)
            self.assertIs(short.stands, standing(form)[0] == "stands")
            stand += short.stands
            for _ in range(15):
                fields = source.sample(form.shown, source.randint(1, short.length))
                answers = tuple(sorted((field, source.choice(book.domain)) for field in fields))
                self.assertIs(answers in short, standing(form, answers)[0] == "stands")
            if short.stands:
                values = short.completed()
                self.assertEqual(standing(form, tuple(zip(form.shown, values)))[0], "stands")
        self.assertGreater(stand, 20)

    def test_joins_of_sixteen_fields(self):
        source = random.Random(51)
        for at in range(24):
            book = KNOWN[at % len(KNOWN)]
            many = 10 if number_tried(book) == 3 else 16
            form = self.great_form(source, book, many, 8, 0)
            other = self.great_form(source, book, many, 4, 0)
            joined = Short(form) & Short(other)
            self.assertEqual(joined, Short(form & other))
            self.assertEqual(joined.hiding(*form.shown[:8]), Short((form & other).hiding(*form.shown[:8])))

    def test_a_long_way(self):
        fields = THIRTY[:16]
        chain = Form(Book(TRIT, (("below", BELOW),)), fields, *[("below", pair) for pair in zip(fields, fields[1:])])
        short = Short(chain)
        self.assertEqual(short.rows_of(fields[0], fields[-1]), BELOW.rows)
        self.assertEqual(short.rows_of(fields[-1], fields[0]), BELOW.picked(1, 0).rows)
        self.assertEqual(len(set(short.completed((fields[0], "c")))), 1)
        round_about = Short(chain.with_rules(("below", (fields[-1], fields[0]))))
        self.assertEqual(round_about.rows_of(fields[3], fields[9]), (("a", "a"), ("b", "b"), ("c", "c")))
        self.assertEqual(parted(short, round_about).__class__, tuple)
        notall = Form(Book(BITS, (("is", IS), ("notall", NOTALL))), fields[:10], *[("is", (field,)) for field in fields[:8]])
        self.assertIs(Short(notall).stands, True)
        self.assertIs(Short(notall.with_rules(("notall", fields[:3]))).stands, False)


if __name__ == "__main__":
    unittest.main()
