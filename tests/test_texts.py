"""Point 22: the texts of books and forms."""

import unittest

from clashnumber.books import Book
from clashnumber.errors import InvalidText
from clashnumber.forms import Form
from clashnumber.tables import Table
from samples import BITS, COAT, EITHER, OBJECTS, PAIRS, STRANGE, THIRTY, TRIT, state

WIDE = Table(TRIT, 3, (("c", "a", "b"), ("a", "a", "c")))
BOOKS = {
    "values no yes": Book(BITS),
    "values x": Book(("x",)),
    "values abcdefgh b c": Book(("abcdefgh", "b", "c")),
    "values no yes\ntable abcdefgh 1": Book(BITS, (("abcdefgh", Table(BITS, 1)),)),
    "values no yes\ntable t 1\nrow yes\ntable u 3": Book(BITS, (("u", Table(BITS, 3)), ("t", Table(BITS, 1, (("yes",),))))),
    "values a b c\ntable row 3\nrow a a c\nrow c a b\ntable table 3": Book(TRIT, (("table", Table(TRIT, 3)), ("row", WIDE))),
    "values no yes\ntable either 2\nrow no yes\nrow yes no\nrow yes yes\n"
    "table notboth 2\nrow no no\nrow no yes\nrow yes no": PAIRS,
}
FORMS = {
    "fields": Form(PAIRS, ()),
    "fields a": Form(PAIRS, ("a",)),
    "fields a\nhidden a": Form(PAIRS, ("a",), hidden=("a",)),
    "fields a b c\nhidden b\nrule either a b\nrule notboth b c": COAT,
    "fields a b c\nrule either a b\nrule notboth b c": Form(PAIRS, ("a", "b", "c"), *COAT.rules),
    "fields hidden rule\nhidden hidden rule\nrule either hidden hidden": Form(
        PAIRS, ("rule", "hidden"), ("either", ("hidden", "hidden")), hidden=("rule", "hidden")),
    "fields " + " ".join(sorted(THIRTY)): Form(PAIRS, THIRTY),
}
BAD_BOOKS = (
    "", "values", "values ", " values no", "values no ", "values  no", "values no no", "values yes no", "values a b c d",
    "values No", "values a1", "values ninechars", "value no", "Values no", "fields no", "no yes", "\nvalues no",
    "values no\n", "values\tno", "values no\r", "values\nno", "values no\nvalues no", "values no\n\ntable t 1",
    "values no\ntable", "values no\ntable t", "values no\ntable t ", "values no\ntable  1", "values no\ntable t 0",
    "values no\ntable t 4", "values no\ntable t 01", "values no\ntable t +1", "values no\ntable t one",
    "values no\ntable t 1 ", "values no\ntable t 1\n", "values no\ntable t 1 1", "values no\ntable T 1",
    "values no\ntable t 1\nrow", "values no\ntable t 1\nrow ", "values no\ntable t 1\nrow yes",
    "values no\ntable t 1\nrow no no", "values no\ntable t 1\nrow no\nrow no", "values no\nrow no",
    "values no\nrow no\ntable t 1", "values no\ntable t 1\n row no", "values no\ntable t 1\nrow no\n",
    "values no\ntable t 2\nrow no", "values no\ntable t 1\ntable t 1", "values no\ntable u 1\ntable t 1",
    "values no\ntable t 1\nrule no", "values no yes\ntable t 1\nrow yes\nrow no", "table t 1\nvalues no",
    "values no\ntable a 1\ntable b 1\ntable c 1\ntable d 1\ntable e 1", "values no table t 1",
    "values no\nrow", "values no\n row", "values no\nfields a", "values no\ntable ninechars 1", "values no\nx",
    "values a b c\ntable t 2\nrow a a\nrow a b\nrow a c\nrow b a\nrow b b\nrow b c\nrow c a\nrow c b\nrow c c",
    "values no\ntable t \u0661", "values n\u00f6", "values no\u00a0yes", "values no\u2028table t 1", "values no\x0btable t 1",
)
BAD_FORMS = (
    "", "field", "fields ", " fields", "fields\n", "\nfields", "fields a ", "fields  a", "fields b a", "fields a a",
    "fields A", "fields ninechars", "fields a1", "fields a\tb", "Fields a", "values a", "a b", "fields a\r",
    "fields\nhidden", "fields a\nhidden", "fields a\nhidden ", "fields a\nhidden b", "fields a\nhidden a a",
    "fields a b\nhidden b a", "fields a b\nhidden a\nhidden b", "hidden a\nfields a", "hidden a", "fields a hidden a",
    "fields a\nhidden a\n", "fields a\n hidden a", "fields a\nrule", "fields a\nrule ", "fields a\nrule either",
    "fields a\nrule either ", "fields a\nrule either a", "fields a\nrule either a a ", "fields a\nrule either a a a",
    "fields a\nrule either a b", "fields a\nrule both a a", "fields a\nrule  either a a", "fields a\nrule either  a a",
    "fields a\nrule either a a\n", "fields a\n\nrule either a a", "fields a\nrule either a a\nrule either a a",
    "fields a b\nrule either b a\nrule either a b", "fields a\nrule notboth a a\nrule either a a",
    "fields a\nrule either a a\nhidden a", "rule either a a\nfields a", "fields a\nfields a", "fields a\nfields",
    "fields a\ntable either 2", "fields a\nrules either a a", "fields a\nx", "fields a\nhidden a\nhidden a",
    "fields " + " ".join(sorted(THIRTY)) + " zz", "fields a\u00a0b", "fields a\u2028hidden a",
    "fields a\nhidden a\u0085rule either a a",
)


def spoiled(text):
    """Texts that have a word, a blank, a line or a line feed more or less than this one, or in another place."""
    for at in range(len(text) + 1):
        for more in (" ", "\n", "a", " a", "\n\n"):
            yield text[:at] + more + text[at:]
    for at in range(len(text)):
        yield text[:at] + text[at + 1:]
    lines = text.split("\n")
    for at in range(len(lines)):
        for other in range(len(lines)):
            moved = lines[:at] + lines[at + 1:]
            moved.insert(other, lines[at])
            yield "\n".join(moved)
        yield "\n".join(lines[:at] + lines[at + 1:])
        yield "\n".join(lines[:at + 1] + lines[at:])


class TextTests(unittest.TestCase):
    def invalid(self, call, *told, **named):
        with self.assertRaises(InvalidText) as caught:
            call(*told, **named)
        self.assertIs(caught.exception.__class__, InvalidText)

    def test_the_examples(self):
        self.assertEqual(PAIRS.only("either").text, "values no yes\ntable either 2\nrow no yes\nrow yes no\nrow yes yes")
        self.assertEqual(COAT.text, "fields a b c\nhidden b\nrule either a b\nrule notboth b c")

    def test_books(self):
        for text, book in BOOKS.items():
            self.assertEqual(book.text, text)
            self.assertEqual(Book.read(text), book)
            self.assertEqual(Book.read(text=text).text, text)
            self.assertIs(Book.read(text).__class__, Book)

    def test_forms(self):
        for text, form in FORMS.items():
            self.assertEqual(form.text, text)
            self.assertEqual(Form.read(PAIRS, text), form)
            self.assertEqual(Form.read(text=text, book=PAIRS).book, PAIRS)
            self.assertIs(Form.read(PAIRS, text).__class__, Form)

    def test_no_texts_of_books(self):
        for text in BAD_BOOKS + STRANGE + OBJECTS + tuple(FORMS) + ([PAIRS.text], (PAIRS.text,), PAIRS.text.encode()):
            with self.subTest(text=repr(text)[:80]):
                self.invalid(Book.read, text)
                self.invalid(Book.read, text=text)

    def test_no_texts_of_forms(self):
        for text in BAD_FORMS + STRANGE + OBJECTS + tuple(BOOKS) + ([COAT.text], (COAT.text,), COAT.text.encode()):
            with self.subTest(text=repr(text)[:80]):
                self.invalid(Form.read, PAIRS, text)
                self.invalid(Form.read, text=text, book=PAIRS)

    def test_spoiled_texts_of_books(self):
        for text in BOOKS:
            for other in spoiled(text):
                try:
                    book = Book.read(other)
                except InvalidText:
                    continue
                self.assertEqual(book.text, other)
                self.assertEqual(other == text, book == BOOKS[text])

    def test_spoiled_texts_of_forms(self):
        for text in FORMS:
            for other in spoiled(text):
                try:
                    form = Form.read(PAIRS, other)
                except InvalidText:
                    continue
                self.assertEqual(form.text, other)
                self.assertEqual(other == text, form == FORMS[text])

    def test_a_form_is_read_over_the_book(self):
        self.invalid(Form.read, Book(BITS), COAT.text)
        self.invalid(Form.read, Book(BITS, (("either", Table(BITS, 1)),)), "fields a b\nrule either a b")
        book = Book(BITS, (("either", EITHER),))
        self.assertEqual(Form.read(book, "fields a b\nrule either a b"), Form(book, ("a", "b"), ("either", ("a", "b"))))

    def test_long_texts(self):
        rules = tuple(("either", (field, other)) for field in THIRTY for other in THIRTY)
        form = Form(PAIRS, THIRTY, *rules)
        self.assertEqual(Form.read(PAIRS, form.text), form)
        self.invalid(Form.read, PAIRS, form.text + "\n")
        self.invalid(Form.read, PAIRS, form.text.replace("rule either fa fa\n", "") + "\nrule either fa fa")
        self.invalid(Book.read, "values no yes" + "\nrow no" * 5000)
        self.invalid(Book.read, "values" + " a" * 10000)

    def test_nothing_is_changed(self):
        before = state([PAIRS, COAT])
        Form.read(PAIRS, COAT.text)
        self.invalid(Form.read, PAIRS, COAT.text + " ")
        self.assertEqual(state([PAIRS, COAT]), before)


if __name__ == "__main__":
    unittest.main()
