"""Points 12, 19 and 20: closures and closings, derived tables, rules written out, and the greatest parts of a book."""

import random
import unittest
from itertools import combinations, permutations, product

from brute import (
    BELOW, BOOKS, COLOURS, HORN, NEXT, NOTALL, ODDS, ORDER, PARITY, SOME, TRIO, all_choices, all_sets, all_votes,
    choice_keeps, closure_tried, greatest_tried, is_at_most, is_closing, put_otherwise, shown_rows, some_book,
    some_form, some_forms, standing_rows, vote_keeps, voted,
)
from clashnumber.books import Book
from clashnumber.errors import NoBound, NoForm, TooGreat
from clashnumber.forms import Form
from clashnumber.growing import closing, closing_holds, derived_table, greatest_tables, greatest_values, written_out
from clashnumber.numbers import clash_number
from clashnumber.operations import Vote
from clashnumber.shorts import Short
from clashnumber.standing import standing
from clashnumber.tables import Table
from samples import BITS, COAT, EITHER, MOST, OBJECTS, PAIRS, STRANGE, THIRTY, TRIT, Checks, nested, state

EVEN = Table(BITS, 2, (("no", "yes"), ("yes", "no")))
MOST4 = Vote(BITS, 4, tuple("yes" if some.count("yes") > 1 else "no" for some in product(BITS, repeat=4)))
RING = Vote(TRIT, 3, tuple(
    next((value for value in some if some.count(value) > 1), some[1]) for some in product(TRIT, repeat=3)))
NEXT_BOOK = Book(TRIT, (("next", NEXT),))


def some_vote(source, domain, count):
    """Any vote."""
    results = []
    for some in product(domain, repeat=count):
        most = [value for value in domain if some.count(value) >= count - 1]
        results.append(most[0] if most else source.choice(domain))
    return Vote(domain, count, tuple(results))


def some_table(source, domain, most):
    """Any table with at most so many rows."""
    rows = list(product(domain, repeat=source.randint(1, 3)))
    return Table(domain, len(rows[0]), tuple(source.sample(rows, source.randint(0, min(most, len(rows))))))


class DerivedTests(Checks, unittest.TestCase):
    def check(self, form, *fields):
        table = self.unchanged([form, fields], derived_table, form, *fields)
        self.assertIs(table.__class__, Table)
        self.assertEqual([table.domain, table.width], [form.book.domain, len(fields)])
        self.assertEqual(table.rows, standing_rows(form, *fields), form.text)
        return table

    def test_the_example(self):
        self.assertEqual(derived_table(COAT, "a", "c").rows, (("no", "no"), ("yes", "no"), ("yes", "yes")))
        self.assertEqual(derived_table(COAT, "c", "a"), derived_table(COAT, "a", "c").picked(1, 0))

    def test_small_forms(self):
        for form in some_forms(61, 160):
            for size in (1, 2, 3):
                for fields in permutations(form.shown, size) if len(form.shown) < 4 else combinations(form.shown, size):
                    self.check(form, *fields)

    def test_more_than_eight_rows(self):
        self.assertEqual(len(self.check(Form(COLOURS, ("a", "b", "c")), "c", "a", "b")), 27)
        colours = Form(COLOURS, ("a", "b", "c"), ("unlike", ("a", "b")), ("unlike", ("b", "c")))
        self.assertEqual(len(self.check(colours, "a", "b", "c")), 12)

    def test_no_filling(self):
        never = Form(Book(BITS, (("never", Table(BITS, 1)),)), ("a", "b", "h"), ("never", ("h",)), hidden=("h",))
        self.assertEqual([len(self.check(never, "a")), len(self.check(never, "b", "a"))], [0, 0])

    def test_sixteen_fields_and_sixty_rules(self):
        source = random.Random(62)
        for book, number, exact in BOOKS:
            if book.names and (exact or number is not None):
                many = 10 if number == 3 else 16
                rules = [(name, tuple(source.sample(THIRTY[:many], book[name].width))) for name in book.names * 15][:60]
                form = Form(book, THIRTY[:many], *rules[:source.choice((8, 60))], hidden=THIRTY[4:9])
                table = derived_table(form, *form.shown[:3])
                for row in product(book.domain, repeat=3):
                    self.assertEqual(row in table, standing(form, tuple(zip(form.shown, row)))[0] == "stands")

    def test_too_great(self):
        for form in (Form(ODDS, THIRTY[:14]), Form(COLOURS, THIRTY[:9])):
            self.fails(TooGreat, {}, derived_table, form, *form.shown[:2])
        self.assertEqual(len(derived_table(Form(ODDS, THIRTY[:13]), "fa")), 2)
        self.assertEqual(len(derived_table(Form(PAIRS, THIRTY[:16]), "fa")), 2)
        nothing = Form(Book(BITS, (("none", Table(BITS, 1)), ("odd", PARITY), ("some", SOME), ("notall", NOTALL))),
                       THIRTY[:16], ("none", ("fa",)))
        self.assertEqual(derived_table(nothing, "fb").rows, ())

    def test_each_vote_and_choice_that_keeps_the_book_keeps_it(self):
        source = random.Random(63)
        for book, number, _ in BOOKS:
            for _ in range(3):
                form = some_form(source, book, 4)
                if form.shown and book.names:
                    table = derived_table(form, *form.shown[:3])
                    wide = Book(book.domain, book.tables[:3] + (("derived", table),)) if len(table) < 9 else None
                    for results in all_choices(book.domain):
                        if wide and choice_keeps(book.domain, results, book):
                            self.assertTrue(choice_keeps(book.domain, results, wide))
                    for count in (3, 4)[:4 - max(2, len(book.domain))]:
                        for results in list(all_votes(book.domain, count))[::7]:
                            if wide and vote_keeps(book.domain, count, results, book):
                                self.assertTrue(vote_keeps(book.domain, count, results, wide))

    def test_adding_it_does_not_make_the_clash_number_greater(self):
        source = random.Random(64)
        for _ in range(40):
            book = some_book(source, BITS)
            form = some_form(source, book, 4)
            if form.shown:
                table = derived_table(form, *source.sample(form.shown, min(3, len(form.shown))))
                number, more = clash_number(book), clash_number(book.with_table("derived", table))
                self.assertTrue(number is None or more is not None and more <= number)


class WrittenTests(Checks, unittest.TestCase):
    def check(self, form, name, part, *fields):
        """What written_out returns, by the words of point 19."""
        written = self.unchanged([form, part], written_out, form, name, part, *fields)
        self.assertIs(written.__class__, Form)
        self.assertEqual([written.book, written.shown], [part.book, form.shown])
        replaced = [rule for rule in form.rules if rule[0] == name]
        others = [field for field in part.fields if field not in fields]
        new = [field for field in written.fields if field not in form.fields]
        self.assertEqual(sorted(form.hidden + tuple(new)), list(written.hidden))
        self.assertEqual(len(new), len(replaced) * len(others))
        self.assertTrue(set(form.fields) <= set(written.fields))
        rest = [rule for rule in form.rules if rule[0] != name]
        self.assertTrue(set(rest) <= set(written.rules))
        more = [rule for rule in written.rules if rule not in rest]
        self.assertLessEqual(len(more), len(replaced) * len(part.rules))
        # Each new field has rules of one replaced rule alone.
        for field in new:
            beside = {other for _, places in more if field in places for other in places if other not in new}
            self.assertTrue(any(beside <= set(places) for _, places in replaced))
        return written

    def test_the_table_of_a_coat(self):
        table = derived_table(COAT, "a", "c")
        book = PAIRS.with_table("coat", table)
        form = Form(book, ("x", "y", "z"), ("coat", ("x", "y")), ("coat", ("y", "z")), ("either", ("x", "z")))
        written = self.check(form, "coat", COAT, "a", "c")
        self.assertEqual(shown_rows(written), shown_rows(form))
        self.assertEqual([len(written.fields), len(written.rules)], [5, 5])
        self.assertEqual(written_out(form, "coat", COAT, "a", "c"), written)

    def test_fields_several_times(self):
        table = derived_table(COAT, "c", "a")
        book = PAIRS.with_table("coat", table)
        form = Form(book, ("x", "y"), ("coat", ("x", "x")), ("coat", ("y", "x")), hidden=("y",))
        written = self.check(form, "coat", COAT, "c", "a")
        self.assertEqual(shown_rows(written), shown_rows(form))
        self.assertEqual(len(written.hidden), 3)

    def test_random_forms(self):
        source = random.Random(65)
        many = 0
        while many < 120:
            book = source.choice(BOOKS)[0] if many % 2 else some_book(source, source.choice((BITS, TRIT, ("x",))))
            part = some_form(source, book, 4)
            if not part.shown or len(book.names) > 3:
                continue
            fields = source.sample(part.shown, source.randint(1, min(3, len(part.shown))))
            table = derived_table(part, *fields)
            if len(table) > 8:
                continue
            many += 1
            wide = book.with_table("derived", table)
            form = some_form(source, wide, 3)
            if form.fields:
                places = tuple(source.choice(form.fields) for _ in fields)
                form = form.with_rules(("derived", places))
            written = self.check(form, "derived", part, *fields)
            if len(book.domain) ** len(written.fields) < 3000:
                self.assertEqual(shown_rows(written), shown_rows(form))
            for row in product(book.domain, repeat=len(form.shown)):
                answers = tuple(zip(form.shown, row))
                self.assertEqual(standing(form, answers)[0], standing(written, answers)[0])

    def test_no_rule_of_the_table(self):
        book = PAIRS.with_table("coat", derived_table(COAT, "a", "c"))
        form = Form(book, ("x", "y"), ("either", ("x", "y")), hidden=("x",))
        same = Form(PAIRS, ("x", "y"), ("either", ("x", "y")), hidden=("x",))
        self.assertEqual(self.check(form, "coat", COAT, "a", "c"), same)
        self.assertEqual(self.check(Form(book, ()), "coat", COAT, "a", "c"), Form(PAIRS, ()))

    def test_fields_without_rules(self):
        part = Form(PAIRS, ("a", "b", "c", "d"), hidden=("d",))
        book = PAIRS.with_table("all", derived_table(part, "a"))
        form = Form(book, ("x", "y"), ("all", ("x",)), ("all", ("y",)))
        written = self.check(form, "all", part, "a")
        self.assertEqual([len(written.fields), written.rules], [8, ()])

    def test_a_part_without_fillings(self):
        part = Form(PAIRS, ("a", "b"), ("either", ("b", "b")), ("notboth", ("b", "b")))
        book = PAIRS.with_table("none", derived_table(part, "a"))
        form = Form(book, ("x", "y"), ("none", ("y",)))
        written = self.check(form, "none", part, "a")
        self.assertEqual(shown_rows(written), ())

    def test_names_that_are_taken(self):
        part = Form(PAIRS, ("a", "b", "c", "d"), ("either", ("a", "b")), ("either", ("b", "c")), hidden=("b",))
        book = PAIRS.with_table("table", derived_table(part, "a"))
        for fields in (tuple("abcdefghij"), ("aa", "ab", "ac", "ad", "a", "b"), ("aaaaaaaa", "zzzzzzzz"), ("zz", "zx", "ba")):
            form = Form(book, fields, ("table", fields[:1]), ("table", fields[1:2]), hidden=fields[1:])
            self.check(form, "table", part, "a")

    def test_thirty_fields_and_more(self):
        part = Form(PAIRS, ("a", "b", "c", "d"), ("either", ("a", "b")), ("either", ("c", "d")), hidden=("d",))
        book = PAIRS.with_table("table", derived_table(part, "a", "c"))
        fields = THIRTY[:10]
        rules = [("table", pair) for pair in combinations(fields, 2)]
        form = Form(book, fields, *rules[:10])
        self.assertEqual(len(self.check(form, "table", part, "a", "c").fields), 30)
        for many in (11, 12, 45):
            form = Form(book, fields, *rules[:many])
            self.refused(NoForm, "fields", written_out, form, "table", part, "a", "c")
        whole = Form(PAIRS, THIRTY[:16], ("either", ("fa", "fb")), hidden=THIRTY[4:8])
        wide = PAIRS.with_table("table", derived_table(whole, "fa", "fb", "fc"))
        triples = [("table", some) for some in combinations(THIRTY[:16], 3)]
        self.assertEqual(len(self.check(Form(wide, THIRTY[:16], triples[0]), "table", whole, "fa", "fb", "fc").fields), 29)
        for many in (2, 60):
            form = Form(wide, THIRTY[:16], *triples[:many])
            self.refused(NoForm, "fields", written_out, form, "table", whole, "fa", "fb", "fc")
        long = whole.with_rules(*[("either", pair) for pair in zip(THIRTY[3:16], THIRTY[4:16])])
        wide = PAIRS.with_table("table", derived_table(long, "fa", "fb", "fc"))
        form = Form(wide, THIRTY[:16], *triples[:60])
        self.refused(NoForm, "fields", written_out, form, "table", long, "fa", "fb", "fc")
        lone = Form(PAIRS, ("a",), ("either", ("a", "a")))
        form = Form(PAIRS.with_table("one", derived_table(lone, "a")), THIRTY, *[("one", (field,)) for field in THIRTY])
        self.assertEqual(self.check(form, "one", lone, "a").rules, tuple(("either", (field,) * 2) for field in form.fields))

    def test_what_is_written_out_is_searched(self):
        part = Form(TRIO, ("a", "b", "c", "d"), ("notall", ("a", "b", "d")), ("notall", ("c", "b", "d")), hidden=("d",))
        book = TRIO.with_table("more", derived_table(part, "a", "b", "c"))
        fields = THIRTY[:10]
        form = Form(book, fields, *[("more", some) for some in zip(fields, fields[1:], fields[2:])])
        written = self.check(form, "more", part, "a", "b", "c")
        self.assertEqual(Short(written).fields, form.shown)
        self.assertEqual([Short(form).rows_of(*some) for some in combinations(fields[:6], 3)],
                         [Short(written).rows_of(*some) for some in combinations(fields[:6], 3)])


class ClosingTests(Checks, unittest.TestCase):
    def check(self, vote, table):
        """What closing returns, held against adding rows until nothing is missing."""
        thing = self.unchanged([vote, table], closing, vote, table)
        closure = closure_tried(vote, table)
        self.assertTrue(is_closing(vote, table, closure, thing))
        self.assertIs(closing_holds(vote, table, thing), True)
        return thing

    def test_the_example(self):
        self.assertEqual(closing(MOST, EVEN), (EVEN, ()))
        self.assertEqual(closing(table=EVEN, vote=MOST)[1], ())

    def test_votes_of_three(self):
        source = random.Random(66)
        steps = 0
        for at in range(200):
            vote = some_vote(source, (BITS, TRIT, TRIT, ("x",))[at % 4], 3)
            thing = self.check(vote, some_table(source, vote.domain, 27))
            steps += len(thing[1])
            self.assertIs(vote.keeps(thing[0]), True)
            self.assertEqual(closing(vote, thing[0]), (thing[0], ()))
        self.assertGreater(steps, 300)

    def test_votes_of_four(self):
        source = random.Random(67)
        for at in range(60):
            vote = some_vote(source, (BITS, BITS, TRIT, ("x",))[at % 4], 4)
            table = some_table(source, vote.domain, 8 if len(vote.domain) < 3 else 3)
            thing = closing(vote, table)
            self.assertIs(closing_holds(vote, table, thing), True)
            self.assertIs(vote.keeps(thing[0]), True)
            if len(thing[0]) < 13:
                self.check(vote, table)

    def test_eight_rows_of_three_values(self):
        source = random.Random(68)
        rows = list(product(TRIT, repeat=3))
        for vote in (RING, Vote.middle(TRIT), some_vote(source, TRIT, 3)):
            for _ in range(6):
                self.check(vote, Table(TRIT, 3, tuple(source.sample(rows, 8))))
        middle = Vote(TRIT, 4, tuple(sorted(some)[1] for some in product(TRIT, repeat=4)))
        for vote in (middle, some_vote(source, TRIT, 4)):
            for _ in range(2):
                table = Table(TRIT, 3, tuple(source.sample(rows, 8)))
                thing = closing(vote, table)
                self.assertIs(closing_holds(vote, table, thing), True)
                self.assertTrue(is_closing(vote, table, thing[0], thing))
                self.assertIs(vote.keeps(thing[0]), True)

    def test_edges(self):
        for domain in (("x",), BITS, TRIT):
            for vote in (Vote.middle(domain), some_vote(random.Random(69), domain, 4)):
                for width in (1, 2, 3):
                    empty, full = Table(domain, width), Table.full(domain, width)
                    self.assertEqual(closing(vote, empty), (empty, ()))
                    self.assertEqual(closing(vote, full), (full, ()))
                    one = Table(domain, width, (domain[-1:] * width,))
                    self.assertEqual(closing(vote, one), (one, ()))
                    for table in (empty, full, one):
                        self.assertIs(closing_holds(vote, table, (table, ())), True)
        notall = closing(MOST, NOTALL)
        self.assertEqual([notall[0], [row for row, _ in notall[1]]], [Table.full(BITS, 3), [("yes",) * 3]])
        self.assertEqual([closing(MOST4, NOTALL)[0].is_full, closing(MOST4, SOME)], [True, (SOME, ())])

    def test_each_row_is_a_step_of_earlier_rows(self):
        table = Table(TRIT, 3, (("a", "b", "c"), ("b", "c", "a"), ("c", "a", "b"), ("a", "a", "a")))
        closure, steps = self.check(RING, table)
        self.assertGreater(len(steps), 2)
        self.assertEqual(len({row for row, _ in steps}), len(steps))
        self.assertEqual(len(closure), 4 + len(steps))


class ClosingHoldsTests(Checks, unittest.TestCase):
    TABLE = Table(TRIT, 3, (("a", "b", "c"), ("b", "c", "a"), ("c", "a", "b"), ("a", "a", "a")))

    def holds(self, vote, table, thing, right=True):
        self.assertIs(self.unchanged([vote, table, thing], closing_holds, vote, table, thing), right)

    def test_any_rows_that_make_it(self):
        a, b, c = (("no", "yes", "yes"), ("yes", "no", "yes"), ("yes", "yes", "no"))
        three = Table(BITS, 3, (a, b, c))
        whole = Table(BITS, 3, (a, b, c, ("yes",) * 3))
        for rows in permutations((a, b, c)):
            self.holds(MOST, three, (whole, ((("yes",) * 3, rows),)))
            self.assertIs(closing_holds(thing=(whole, ((("yes",) * 3, rows),)), table=three, vote=MOST), True)
        self.holds(MOST, three, (whole, ((("yes",) * 3, (a, b, b)),)), False)
        self.holds(MOST, three, (whole, ((("yes",) * 3, (a, b, c)),) * 2), False)
        self.holds(MOST, three, (whole, ()), False)
        self.holds(MOST, three, (three, ()), False)
        self.holds(MOST, three, (three, ((("yes",) * 3, (a, b, c)),)), False)
        self.holds(MOST, three, (whole, ((("yes",) * 3, (a, b, c, c)),)), False)
        self.holds(MOST, three, (whole, ((("yes",) * 3, (("yes",) * 3,) * 3),)), False)
        self.holds(MOST, three, (whole, ((a, (a, a, b)), (("yes",) * 3, (a, b, c)))), False)
        self.holds(MOST, whole, (whole, ()))
        self.holds(MOST, whole, (whole, ((("yes",) * 3, (a, b, c)),)), False)
        self.holds(MOST, whole, (three, ()), False)
        self.holds(MOST, three, (Table.full(BITS, 3), ((("yes",) * 3, (a, b, c)),)), False)
        self.holds(MOST, three, (Table.full(BITS, 3), ()), False)
        self.holds(MOST4, three, (whole, ((("yes",) * 3, (a, b, c)),)), False)

    def test_one_part_put_otherwise(self):
        closure, steps = closing(RING, self.TABLE)
        right = wrong = 0
        for other in put_otherwise((closure, steps)):
            told = closing_holds(RING, self.TABLE, other)
            self.assertIs(told, is_closing(RING, self.TABLE, closure, other), repr(other))
            right, wrong = right + told, wrong + (not told)
        # The same rows may make a row in another order, and steps may change their places.
        self.assertGreater(right, 3)
        self.assertGreater(wrong, 3000)

    def test_steps_in_other_orders(self):
        closure, steps = closing(RING, self.TABLE)
        right = 0
        for at in range(len(steps)):
            for to in range(len(steps)):
                moved = steps[:at] + steps[at + 1:]
                moved = moved[:to] + (steps[at],) + moved[to:]
                told = is_closing(RING, self.TABLE, closure, (closure, moved))
                self.holds(RING, self.TABLE, (closure, moved), told)
                right += told
        self.assertGreater(right, len(steps) - 1)

    def test_all_rows_of_a_step(self):
        closure, steps = closing(MOST, NOTALL)
        self.assertEqual(len(steps), 1)
        for rows in product(NOTALL.rows, repeat=3):
            self.holds(MOST, NOTALL, (closure, ((steps[0][0], rows),)), voted(MOST, rows) == steps[0][0])

    def test_other_closures(self):
        closure, steps = closing(RING, self.TABLE)
        others = [Table(TRIT, 3, closure.rows[1:]), closure | Table(TRIT, 3, (("c", "c", "c"),)), Table.full(TRIT, 3),
                  closure.picked(0, 1), closure.cut(("a", "b")), self.TABLE, Table(("a", "b", "c"), 3), closure.rows]
        for other in others:
            self.holds(RING, self.TABLE, (other, steps), other == closure)
        self.holds(RING, self.TABLE, (Table(TRIT, 3, closure.rows[::-1]), steps))
        self.holds(RING, closure, (closure, ()))
        self.holds(Vote.middle(TRIT), self.TABLE, (closure, steps), False)
        wide = Table(("a", "b", "c", )[:2], 3, (("a", "b", "a"),))
        self.holds(Vote.middle(("a", "b")), wide, (Table(TRIT, 3, (("a", "b", "a"),)), ()), False)
        self.holds(Vote.middle(("a", "b")), wide, (wide, ()))

    def test_a_step_that_only_others_need(self):
        # A closing without one of its steps lacks a row, even if the closure is put without it, too.
        closure, steps = closing(RING, self.TABLE)
        for at, (row, _) in enumerate(steps):
            fewer = steps[:at] + steps[at + 1:]
            self.holds(RING, self.TABLE, (closure, fewer), False)
            self.holds(RING, self.TABLE, (closure - Table(TRIT, 3, (row,)), fewer), False)
            self.holds(RING, self.TABLE, (closure - Table(TRIT, 3, (row,)), steps), False)

    def test_other_values(self):
        closure, steps = closing(RING, self.TABLE)
        row, rows = steps[-1]
        before = state([closure, steps, self.TABLE, RING, STRANGE, OBJECTS])
        for thing in STRANGE + OBJECTS + (nested(40), [closure, steps], (closure,), (closure, steps, ()), {0: closure}):
            others = [
                thing, (thing, steps), (closure, thing), (thing, thing), (closure, steps + (thing,)),
                (closure, (thing,) + steps),
            ]
            lasts = [
                thing, (thing, rows), (row, thing), (row, rows[:2] + (thing,)), (row, rows[:2] + ((thing,) * 3,)),
                (row, (thing,) * 3), ((thing,) * 3, rows), (row[:2] + (thing,), rows), (row, rows + (thing,)),
            ]
            for other in others + [(closure, steps[:-1] + (last,)) for last in lasts]:
                self.assertIs(closing_holds(RING, self.TABLE, other), False)
        self.assertEqual(state([closure, steps, self.TABLE, RING, STRANGE, OBJECTS]), before)
        self.holds(RING, self.TABLE, (closure, list(steps)), False)
        self.holds(RING, self.TABLE, (closure, tuple(list(step) for step in steps)), False)
        self.holds(RING, self.TABLE, (closure, tuple((row, list(rows)) for row, rows in steps)), False)
        self.holds(RING, self.TABLE, (closure, tuple((list(row), rows) for row, rows in steps)), False)
        self.holds(RING, self.TABLE, (closure, steps * 200), False)


class GreatestTests(Checks, unittest.TestCase):
    def check(self, book):
        """Both functions for all bounds, held against all votes."""
        for most in range(4 if len(book.domain) < 3 else 3):
            found = self.unchanged(book, greatest_tables, book, most)
            sets = [()] + all_sets(book.names)
            self.assertEqual(found, greatest_tried(sets, lambda names: is_at_most(book.only(*names), most)), book.text)
            found = self.unchanged(book, greatest_values, book, most)
            sets = all_sets(book.domain)
            self.assertEqual(found, greatest_tried(sets, lambda values: is_at_most(book.cut(values), most)), book.text)

    def test_the_example(self):
        more = PAIRS.with_table("one", Table(BITS, 1, (("yes",),)))
        self.assertEqual(greatest_tables(more, 1), (("one",),))
        self.assertEqual(greatest_tables(most=1, book=more), (("one",),))
        self.assertEqual(greatest_values(most=1, book=more), (("no",), ("yes",)))

    def test_known_books(self):
        for book, _, _ in BOOKS:
            if len(book.names) < 4 or len(book.domain) < 3:
                self.check(book)

    def test_other_books(self):
        source = random.Random(70)
        for at in range(45):
            self.check(some_book(source, (BITS, BITS, TRIT, ("x",))[at % 4]))

    def test_four_tables(self):
        four = Book(BITS, (("either", EITHER), ("notall", NOTALL), ("odd", PARITY), ("some", SOME)))
        self.check(four)
        self.assertEqual(greatest_tables(four, 0), ((),))
        self.assertEqual(greatest_tables(four, 2), (("either",),))
        self.assertEqual(greatest_tables(four, 3), (("either", "some"), ("notall",)))
        self.check(Book(BITS, tuple((name, Table(BITS, 2)) for name in "abcd")))
        self.assertEqual(greatest_tables(Book(BITS, tuple((name, Table(BITS, 2)) for name in "abcd")), 0), (tuple("abcd"),))
        self.check(Book(BITS, (("horn", HORN), ("is", Table(BITS, 1, (("no",),))), ("none", Table(BITS, 3)), ("odd", PARITY))))

    def test_edges(self):
        for domain in (("x",), BITS, TRIT):
            for most in range(4 if len(domain) < 3 else 3):
                self.assertEqual(greatest_tables(Book(domain), most), ((),))
                self.assertEqual(greatest_values(Book(domain), most), (domain,))
        # Only the empty set, and the sets of one value.
        self.assertEqual(greatest_tables(COLOURS, 2), ((),))
        self.assertEqual(greatest_tables(ODDS, 3), ((),))
        self.assertEqual(greatest_values(ODDS, 3), (("no",), ("yes",)))
        self.assertEqual(greatest_values(COLOURS, 0), (("a",), ("b",), ("c",)))
        self.assertEqual(greatest_values(COLOURS, 2), (("a", "b"), ("a", "c"), ("b", "c")))
        self.assertEqual(greatest_values(Book(TRIT, (("order", ORDER),)), 0), (("a",), ("b",), ("c",)))
        # Each set is within the number.
        self.assertEqual(greatest_tables(PAIRS, 2), (("either", "notboth"),))
        self.assertEqual(greatest_values(Book(TRIT, (("below", BELOW),)), 2), (TRIT,))
        self.check(Book(("x",), (("all", Table.full(("x",), 2)), ("none", Table(("x",), 1)))))

    def test_held_against_clash_numbers(self):
        source = random.Random(71)
        for _ in range(60):
            book = some_book(source, TRIT)
            values = {some: clash_number(book.cut(some)) for some in all_sets(TRIT)}
            tables = {names: clash_number(book.only(*names)) for names in [()] + all_sets(book.names)}
            for most in range(3):
                for found, number_of in ((greatest_values(book, most), values), (greatest_tables(book, most), tables)):
                    right = [some for some, number in number_of.items() if number is not None and number <= most]
                    self.assertEqual(found, greatest_tried(right, lambda some: True))

    def test_no_bound(self):
        wrong = [thing for thing in STRANGE + OBJECTS if thing is False or thing != 0] + [5, -4, "2", (2,), [2], nested(40)]
        for book in (PAIRS, Book(("x",)), COLOURS, TRIO, NEXT_BOOK):
            for thing in wrong:
                for function in (greatest_tables, greatest_values):
                    self.fails(NoBound, {"number": thing}, function, book, thing)
                    self.fails(NoBound, {"number": thing}, function, most=thing, book=book)
        for book in (Book(TRIT), COLOURS, NEXT_BOOK):
            for function in (greatest_tables, greatest_values):
                self.fails(NoBound, {"number": 3}, function, book, 3)


if __name__ == "__main__":
    unittest.main()
