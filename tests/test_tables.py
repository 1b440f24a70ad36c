"""Point 4: tables."""

import unittest
from itertools import combinations, product

from clashnumber.books import Book
from clashnumber.errors import NoTable
from clashnumber.tables import Table
from samples import BITS, COAT, EITHER, NOTBOTH, OBJECTS, PAIRS, STRANGE, TRIT, WRONG_DOMAINS, Checks, state

ONE = ("x",)
LONG = ("abcdefgh", "z")


def some_tables():
    """All tables of width 1 and 2 over two values, some others of each width over one and three values."""
    for width in (1, 2):
        rows = list(product(BITS, repeat=width))
        for many in range(len(rows) + 1):
            for some in combinations(rows, many):
                yield BITS, width, some
    for domain in (ONE, TRIT):
        for width in (1, 2, 3):
            rows = list(product(domain, repeat=width))
            for step in (1, 2, 3, 5, 30):
                yield domain, width, tuple(rows[::step])
            yield domain, width, ()


class MadeTests(Checks, unittest.TestCase):
    def test_the_examples(self):
        self.assertEqual(
            [len(EITHER), EITHER.column(0), EITHER.is_product, (EITHER & NOTBOTH).rows],
            [3, ("no", "yes"), False, (("no", "yes"), ("yes", "no"))],
        )
        self.assertEqual((~EITHER).rows, (("no", "no"),))
        self.assertEqual(
            [EITHER.picked(1, 1).rows, Table.product(BITS, ("yes",), ("yes", "no")).rows],
            [(("no", "no"), ("yes", "yes")), (("yes", "no"), ("yes", "yes"))],
        )

    def test_attributes(self):
        table = Table(BITS, 2, (("yes", "no"), ("no", "yes"), ("yes", "no")))
        self.assertEqual(table.domain, BITS)
        self.assertEqual(table.width, 2)
        self.assertEqual(table.rows, (("no", "yes"), ("yes", "no")))
        self.assertIs(table.is_full, False)
        self.assertIs(table.is_product, False)
        self.assertEqual(sorted(vars(table)), ["domain", "is_full", "is_product", "rows", "width"])

    def test_by_name_and_without_rows(self):
        table = Table(domain=BITS, width=3)
        self.assertEqual([table.rows, table.width, len(table), list(table)], [(), 3, 0, []])
        self.assertEqual(Table(rows=(("no",),), width=1, domain=BITS), Table(BITS, 1, (("no",),)))

    def test_names_of_one_and_of_eight_letters(self):
        self.assertEqual(Table(LONG, 1, (("z",),)).rows, (("z",),))
        self.assertEqual(Table(LONG, 1, (("abcdefgh",),)).column(0), ("abcdefgh",))

    def test_full_and_product(self):
        for domain, width, rows in some_tables():
            table = Table(domain, width, rows)
            columns = [sorted({row[place] for row in rows}) for place in range(width)]
            self.assertIs(table.is_full, set(rows) == set(product(domain, repeat=width)))
            self.assertIs(table.is_product, set(rows) == set(product(*columns)))
            self.assertEqual([table.column(place) for place in range(width)], [tuple(some) for some in columns])
        self.assertIs(Table(BITS, 2).is_product, True)
        self.assertIs(Table(BITS, 2).is_full, False)

    def test_wrong_domains(self):
        self.refused_each(NoTable, "domain", lambda thing: Table(thing, 1), WRONG_DOMAINS)
        self.refused_each(NoTable, "domain", lambda thing: Table(domain=thing, width=1, rows=()), WRONG_DOMAINS)
        self.refused_each(NoTable, "domain", lambda thing: Table(thing, thing, thing), WRONG_DOMAINS)

    def test_wrong_widths(self):
        wrong = STRANGE + OBJECTS + ("1", "2", (1,), (2,), [1], 10 ** 39 + 1)
        self.refused_each(NoTable, "width", lambda thing: Table(BITS, thing), wrong)
        self.refused_each(NoTable, "width", lambda thing: Table(BITS, width=thing, rows=(("no",),)), wrong)
        self.refused_each(NoTable, "width", lambda thing: Table(BITS, thing, thing), wrong)

    def test_wrong_rows(self):
        wrong = [thing for thing in STRANGE + OBJECTS if thing != ()] + [
            ["no"], [("no",)], (["no"],), ("no",), (("no",), "no"), (("no", "no"),), (("no",), ()), ((),),
            (("no",), ("maybe",)), ((True,),), ((EITHER,),), (EITHER,), ((["no"],),), (({"no": 1},),), (("",),),
            (("no",),) * 5000 + (["no"],), {("no",): True},
        ]
        self.refused_each(NoTable, "rows", lambda thing: Table(BITS, 1, thing), wrong)
        self.refused_each(NoTable, "rows", lambda thing: Table(BITS, 1, rows=thing), wrong)
        self.refused(NoTable, "rows", Table, BITS, 2, (("no", "no"), ("no",)))
        self.refused(NoTable, "rows", Table, ONE, 1, (("no",),))

    def test_the_first_of_several_errors(self):
        self.refused(NoTable, "domain", Table, ("yes", "no"), True, [("no",)])
        self.refused(NoTable, "domain", Table, BITS + BITS, 1, None)
        self.refused(NoTable, "width", Table, BITS, True, [("no",)])
        self.refused(NoTable, "width", Table, BITS, 4, (("no",),))

    def test_many_rows_may_be_repeated(self):
        self.assertEqual(Table(BITS, 1, (("yes",), ("no",)) * 10000).rows, (("no",), ("yes",)))


class EqualTests(Checks, unittest.TestCase):
    def test_equal(self):
        self.assertEqual(EITHER, Table(BITS, 2, (("yes", "yes"), ("yes", "no"), ("no", "yes"))))
        self.assertNotEqual(EITHER, NOTBOTH)
        self.assertNotEqual(Table(BITS, 1), Table(BITS, 2))
        self.assertNotEqual(Table(BITS, 1), Table(ONE, 1))
        self.assertIs(EITHER == Table(BITS, 2, EITHER.rows), True)
        self.assertIs(EITHER != Table(BITS, 2, EITHER.rows), False)

    def test_equal_to_nothing_else(self):
        self.not_equal_to_others(EITHER)
        self.not_equal_to_others(Table(BITS, 1))
        self.assertFalse(EITHER == EITHER.rows)
        self.assertFalse(EITHER == (BITS, 2, EITHER.rows))


class RowTests(Checks, unittest.TestCase):
    def test_in(self):
        for row in EITHER.rows:
            self.assertIs(row in EITHER, True)
            self.assertIs(list(row) in EITHER, False)
        self.assertIs(("no", "no") in EITHER, False)
        self.assertIs(("no", "no") not in EITHER, True)
        for thing in STRANGE + OBJECTS:
            self.assertIs(thing in EITHER, False)
            self.assertIs(("no", thing) in EITHER, False)
            self.assertIs((thing,) in Table.full(BITS, 1), False)
        self.assertIs(("no", "yes", "no") in EITHER, False)
        self.assertIs(() in Table(BITS, 1), False)

    def test_len_and_iteration(self):
        for domain, width, rows in some_tables():
            table = Table(domain, width, tuple(reversed(rows)) * 2)
            self.assertEqual(len(table), len(rows))
            self.assertEqual(list(table), sorted(rows))
            self.assertEqual(tuple(table), table.rows)


class OperatorTests(Checks, unittest.TestCase):
    def test_both_one_and_only(self):
        tables = [Table(BITS, 2, rows) for domain, width, rows in some_tables() if domain == BITS and width == 2]
        for table in tables:
            for other in tables:
                rows, others = set(table.rows), set(other.rows)
                before = state([table, other])
                self.assertEqual((table & other).rows, tuple(sorted(rows & others)))
                self.assertEqual((table | other).rows, tuple(sorted(rows | others)))
                self.assertEqual((table - other).rows, tuple(sorted(rows - others)))
                self.assertEqual(state([table, other]), before)
        self.assertIsInstance(EITHER & NOTBOTH, Table)
        self.assertEqual(EITHER | NOTBOTH, Table.full(BITS, 2))
        self.assertEqual((EITHER - NOTBOTH).rows, (("yes", "yes"),))

    def test_all_others(self):
        for domain, width, rows in some_tables():
            table = Table(domain, width, rows)
            self.assertEqual((~table).rows, tuple(sorted(set(product(domain, repeat=width)) - set(rows))))
            self.assertEqual(~~table, table)
            self.assertEqual([(~table).domain, (~table).width], [domain, width])

    def test_times(self):
        one = Table(BITS, 1, (("yes",),))
        self.assertEqual((one * EITHER).rows, (("yes", "no", "yes"), ("yes", "yes", "no"), ("yes", "yes", "yes")))
        self.assertEqual((EITHER * one).rows, (("no", "yes", "yes"), ("yes", "no", "yes"), ("yes", "yes", "yes")))
        self.assertEqual((one * one * one), Table(BITS, 3, (("yes", "yes", "yes"),)))
        self.assertEqual(one * Table(BITS, 2), Table(BITS, 3))
        self.assertEqual(Table.full(TRIT, 1) * Table.full(TRIT, 2), Table.full(TRIT, 3))

    def test_unlike(self):
        calls = (lambda other: EITHER & other, lambda other: EITHER | other, lambda other: EITHER - other)
        others = (Table(BITS, 1), Table(BITS, 3), Table(TRIT, 2), Table(ONE, 2), Table(("no",), 2), PAIRS, COAT)
        for call in calls:
            self.refused_each(NoTable, "unlike", call, others + STRANGE)

    def test_times_unlike_then_too_wide(self):
        others = (Table(TRIT, 1), Table(ONE, 1), Table(TRIT, 3), PAIRS, COAT)
        self.refused_each(NoTable, "unlike", lambda other: EITHER * other, others + STRANGE)
        self.refused_each(NoTable, "width", lambda other: EITHER * other, (EITHER, Table(BITS, 3), Table.full(BITS, 2)))
        self.refused(NoTable, "width", lambda: Table(BITS, 3) * Table(BITS, 1))
        self.refused(NoTable, "width", lambda: Table(BITS, 1) * Table(BITS, 3))


class MethodTests(Checks, unittest.TestCase):
    def test_columns(self):
        self.assertEqual(Table(BITS, 3).column(2), ())
        self.assertEqual(Table(BITS, 3).column(place=0), ())
        table = Table(TRIT, 3, (("c", "a", "b"), ("a", "a", "c")))
        self.assertEqual([table.column(place) for place in range(3)], [("a", "c"), ("a",), ("b", "c")])

    def test_picked(self):
        table = Table(TRIT, 3, (("c", "a", "b"), ("a", "a", "c")))
        self.assertEqual(table.picked(1).rows, (("a",),))
        self.assertEqual(table.picked(2, 0).rows, (("b", "c"), ("c", "a")))
        self.assertEqual(table.picked(2, 2, 0).rows, (("b", "b", "c"), ("c", "c", "a")))
        self.assertEqual(table.picked(0, 1, 2), table)
        self.assertEqual(Table(BITS, 1, (("no",),)).picked(0, 0, 0), Table(BITS, 3, (("no", "no", "no"),)))
        self.assertEqual(Table(BITS, 2).picked(1), Table(BITS, 1))

    def test_cut(self):
        self.assertEqual(EITHER.cut(("yes",)), Table(("yes",), 2, (("yes", "yes"),)))
        self.assertEqual(EITHER.cut(("no",)), Table(("no",), 2))
        self.assertEqual(EITHER.cut(BITS), EITHER)
        self.assertEqual(EITHER.cut(values=BITS), EITHER)
        table = Table(TRIT, 3, (("c", "a", "b"), ("a", "a", "c")))
        self.assertEqual(table.cut(("a", "c")), Table(("a", "c"), 3, (("a", "a", "c"),)))
        self.assertIs(Table(TRIT, 1, (("a",), ("b",))).cut(("a", "b")).is_full, True)

    def test_full(self):
        for domain in (ONE, BITS, TRIT):
            for width in (1, 2, 3):
                table = Table.full(domain, width)
                self.assertEqual(table.rows, tuple(product(domain, repeat=width)))
                self.assertEqual([table.domain, table.width, table.is_full, table.is_product],
                                 [domain, width, True, True])
        self.assertEqual(Table.full(domain=BITS, width=1), Table(BITS, 1, (("no",), ("yes",))))

    def test_product(self):
        self.assertEqual(Table.product(BITS, ()), Table(BITS, 1))
        self.assertEqual(Table.product(BITS, ("no",), ()), Table(BITS, 2))
        self.assertEqual(Table.product(TRIT, ("c", "a")).rows, (("a",), ("c",)))
        self.assertEqual(Table.product(TRIT, TRIT, TRIT, TRIT), Table.full(TRIT, 3))
        table = Table.product(TRIT, ("c", "a"), ("b",), ("b", "a"))
        self.assertEqual(table.rows, (("a", "b", "a"), ("a", "b", "b"), ("c", "b", "a"), ("c", "b", "b")))
        self.assertIs(table.is_product, True)

    def test_nothing_is_changed(self):
        before = state([EITHER, NOTBOTH])
        EITHER.column(0)
        EITHER.picked(1, 0)
        EITHER.cut(("no",))
        self.assertEqual([EITHER & NOTBOTH, ~EITHER], [EITHER & NOTBOTH, ~EITHER])
        Book(BITS, (("either", EITHER),))
        self.assertEqual(state([EITHER, NOTBOTH]), before)


if __name__ == "__main__":
    unittest.main()
