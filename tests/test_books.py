"""Points 5 and 20: books, and how they are cut."""

import unittest

from clashnumber.books import Book
from clashnumber.errors import NoBook
from clashnumber.tables import Table
from samples import BITS, COAT, EITHER, NOTBOTH, OBJECTS, PAIRS, STRANGE, TRIT, Checks, state

FOUR = (("d", NOTBOTH), ("b", EITHER), ("abcdefgh", Table(BITS, 3)), ("c", Table.full(BITS, 1)))
NINE = Table(TRIT, 2) | Table.full(TRIT, 2)
EIGHT = Table.full(BITS, 3)


class MadeTests(Checks, unittest.TestCase):
    def test_the_example(self):
        self.assertEqual(
            [PAIRS.names, PAIRS["either"] == EITHER, "both" in PAIRS, PAIRS.cut(("no",))["notboth"].rows],
            [("either", "notboth"), True, False, (("no", "no"),)],
        )

    def test_attributes(self):
        book = Book(BITS, FOUR)
        self.assertEqual(book.domain, BITS)
        self.assertEqual(book.names, ("abcdefgh", "b", "c", "d"))
        self.assertEqual(book.tables, (
            ("abcdefgh", Table(BITS, 3)), ("b", EITHER), ("c", Table.full(BITS, 1)), ("d", NOTBOTH),
        ))
        self.assertEqual(sorted(vars(book)), ["domain", "names", "tables", "text"])

    def test_without_tables(self):
        for book in (Book(BITS), Book(domain=BITS), Book(BITS, ()), Book(tables=(), domain=BITS)):
            self.assertEqual([book.names, book.tables, len(book), list(book)], [(), (), 0, []])

    def test_one_and_three_values(self):
        self.assertEqual(Book(("x",), (("t", Table.full(("x",), 3)),)).names, ("t",))
        self.assertEqual(Book(TRIT, (("t", Table.full(TRIT, 1)),))["t"].rows, (("a",), ("b",), ("c",)))

    def test_eight_rows(self):
        self.assertEqual(len(Book(BITS, (("t", EIGHT),))["t"]), 8)
        eight = NINE - Table(TRIT, 2, (("c", "c"),))
        self.assertEqual(Book(TRIT, (("t", eight),))["t"], eight)

    def test_wrong_domains(self):
        wrong = STRANGE + OBJECTS + ((), ("yes", "no"), ("no", "no"), ("a", "b", "c", "d"), ["no"], "no")
        self.refused_each(NoBook, "domain", Book, wrong)
        self.refused_each(NoBook, "domain", lambda thing: Book(domain=thing, tables=()), wrong)

    def test_wrong_tables(self):
        wrong = STRANGE + OBJECTS + (
            [("t", EITHER)], (["t", EITHER],), ("t", EITHER), (("t",),), (("t", EITHER, EITHER),), ((EITHER, "t"),),
            (("", EITHER),), (("ninechars", EITHER),), (("T", EITHER),), ((True, EITHER),), ((["t"], EITHER),),
            (("t", None),), (("t", EITHER.rows),), (("t", PAIRS),), (("t", Table(TRIT, 2)),), (("t", COAT),),
            (("t", Table(("no",), 1)),), {"t": EITHER}, FOUR + (("e", EITHER),), (("t", EITHER), ("u", 1)),
            (("t", EITHER),) * 5, (("t", EITHER),) * 5000, ((("t",), EITHER),),
        )
        wrong = [thing for thing in wrong if thing != ()]
        self.refused_each(NoBook, "tables", lambda thing: Book(BITS, thing), wrong)
        self.refused_each(NoBook, "tables", lambda thing: Book(domain=BITS, tables=thing), wrong)

    def test_equal_names_and_too_many_rows(self):
        self.refused(NoBook, "name", Book, BITS, (("t", EITHER), ("t", NOTBOTH)))
        self.refused(NoBook, "name", Book, BITS, tables=(("t", EITHER), ("u", NOTBOTH), ("t", EITHER)))
        self.refused(NoBook, "rows", Book, TRIT, (("t", NINE),))
        self.refused(NoBook, "rows", Book, TRIT, tables=(("s", Table(TRIT, 1)), ("t", Table.full(TRIT, 3))))

    def test_the_first_of_several_errors(self):
        self.refused(NoBook, "domain", Book, ("yes", "no"), None)
        self.refused(NoBook, "domain", Book, ["no"], (("t", NINE), ("t", NINE)))
        self.refused(NoBook, "tables", Book, TRIT, (("t", NINE), ("t", NINE), ("u", EITHER)))
        self.refused(NoBook, "tables", Book, TRIT, (("t", NINE),) * 5)
        self.refused(NoBook, "name", Book, TRIT, (("t", NINE), ("t", NINE)))
        self.refused(NoBook, "name", Book, TRIT, (("t", NINE), ("u", Table(TRIT, 1)), ("u", Table(TRIT, 1))))


class EqualTests(Checks, unittest.TestCase):
    def test_equal(self):
        self.assertEqual(PAIRS, Book(BITS, (("notboth", NOTBOTH), ("either", EITHER))))
        self.assertNotEqual(PAIRS, Book(BITS, (("notboth", EITHER), ("either", NOTBOTH))))
        self.assertNotEqual(PAIRS, Book(BITS, (("both", NOTBOTH), ("either", EITHER))))
        self.assertNotEqual(Book(BITS), Book(TRIT))
        self.assertNotEqual(Book(BITS), PAIRS)
        self.assertIs(Book(BITS) == Book(BITS), True)
        self.assertIs(Book(BITS) != Book(BITS), False)

    def test_equal_to_nothing_else(self):
        self.not_equal_to_others(PAIRS)
        self.not_equal_to_others(Book(BITS))
        self.assertFalse(PAIRS == PAIRS.tables)
        self.assertFalse(PAIRS == PAIRS.text)


class TableTests(Checks, unittest.TestCase):
    def test_index_in_len_and_iteration(self):
        book = Book(BITS, FOUR)
        self.assertEqual([book[name] for name in book.names], [table for _, table in book.tables])
        self.assertEqual(list(book), ["abcdefgh", "b", "c", "d"])
        self.assertEqual(len(book), 4)
        self.assertEqual([name in book for name in ("b", "e", "abcdefg")], [True, False, False])

    def test_wrong_names(self):
        wrong = STRANGE + OBJECTS + ("t", "either ", ("either",), ["either"], PAIRS.names, b"either", slice(0, 1))
        for thing in wrong:
            self.assertIs(thing in PAIRS, False)
            self.assertIs(thing not in PAIRS, True)
        self.refused_each(NoBook, "name", lambda thing: PAIRS[thing], wrong)
        self.refused_each(NoBook, "name", lambda thing: Book(BITS)[thing], wrong)
        self.refused_each(NoBook, "name", PAIRS.only, wrong)
        self.refused_each(NoBook, "name", lambda thing: PAIRS.only("either", thing, "either"), wrong)


class PartTests(Checks, unittest.TestCase):
    def test_with_table(self):
        before = state([PAIRS, EITHER])
        book = PAIRS.with_table("a", Table(BITS, 1))
        self.assertEqual(book.names, ("a", "either", "notboth"))
        self.assertEqual(book["a"], Table(BITS, 1))
        self.assertEqual(PAIRS.with_table(table=EIGHT, name="z").names, ("either", "notboth", "z"))
        self.assertEqual(state([PAIRS, EITHER]), before)
        self.assertEqual(book.only("either", "notboth"), PAIRS)

    def test_with_table_refused(self):
        for thing in STRANGE + (PAIRS, COAT, EITHER.rows):
            self.refused(NoBook, "tables", PAIRS.with_table, "a", thing)
            self.refused(NoBook, "tables", PAIRS.with_table, thing, EITHER)
            self.refused(NoBook, "tables", PAIRS.with_table, name=thing, table=EITHER)
            self.refused(NoBook, "tables", PAIRS.with_table, "either", thing)
        self.refused(NoBook, "tables", PAIRS.with_table, "a", Table(TRIT, 1))
        self.refused(NoBook, "name", PAIRS.with_table, "either", EITHER)
        self.refused(NoBook, "rows", Book(TRIT).with_table, "t", NINE)
        self.refused(NoBook, "rows", Book(TRIT).with_table, name="t", table=NINE)
        self.refused(NoBook, "name", Book(TRIT, (("t", Table(TRIT, 1)),)).with_table, "t", NINE)
        self.refused(NoBook, "tables", Book(BITS, FOUR).with_table, "e", EITHER)
        self.refused(NoBook, "tables", Book(BITS, FOUR).with_table, "b", EITHER)

    def test_only(self):
        book = Book(BITS, FOUR)
        self.assertEqual(book.only(), Book(BITS))
        self.assertEqual(book.only("d", "b", "d").tables, (("b", EITHER), ("d", NOTBOTH)))
        self.assertEqual(book.only(*book.names), book)
        self.assertEqual(book.only("abcdefgh").names, ("abcdefgh",))
        self.assertEqual(book, Book(BITS, FOUR))

    def test_cut(self):
        book = PAIRS.cut(("yes",))
        self.assertEqual(book, Book(("yes",), (
            ("either", Table(("yes",), 2, (("yes", "yes"),))), ("notboth", Table(("yes",), 2)),
        )))
        self.assertEqual(PAIRS.cut(values=BITS), PAIRS)
        self.assertEqual(Book(TRIT).cut(("a", "c")), Book(("a", "c")))
        table = Table(TRIT, 3, (("a", "c", "a"), ("b", "c", "a")))
        self.assertEqual(Book(TRIT, (("t", table),)).cut(("a", "c"))["t"].rows, (("a", "c", "a"),))


if __name__ == "__main__":
    unittest.main()
