"""What the tests share: the examples of the document, values of wrong kinds, and checks of errors."""

from clashnumber.books import Book
from clashnumber.desks import Desk
from clashnumber.errors import TooGreat
from clashnumber.forms import Form
from clashnumber.operations import Choice, Vote
from clashnumber.shorts import Short
from clashnumber.tables import Table

BITS = ("no", "yes")
TRIT = ("a", "b", "c")
EITHER = Table(BITS, 2, (("no", "yes"), ("yes", "no"), ("yes", "yes")))
NOTBOTH = Table(BITS, 2, (("no", "no"), ("no", "yes"), ("yes", "no")))
PAIRS = Book(BITS, (("either", EITHER), ("notboth", NOTBOTH)))
MOST = Vote.middle(BITS)
LEAST = Choice.least(BITS)
COAT = Form(PAIRS, ("a", "b", "c"), ("either", ("a", "b")), ("notboth", ("b", "c")), hidden=("b",))

THIRTY = tuple("f" + letter for letter in "abcdefghijklmnopqrstuvwxyz") + ("ga", "gb", "gc", "gd")


def nested(depth):
    """A tuple with a list with a tuple .. and so on, so deep."""
    thing = "no"
    for level in range(depth):
        thing = (thing,) if level % 2 else [thing]
    return thing


# Values that are no name, no number, no tuple of names or rows, and no object that is asked for.
STRANGE = (
    None, True, False, -1, 0, 4, 10 ** 39, -10 ** 39,
    "", "No", "no ", " no", "no\n", "ninechars", "a1", "a_b", "~", "x" * 4000,
    [], {}, [()], [[]], ["no"], ["no", "yes"], [("no", "yes")], {"no": "yes"}, {(): ()}, {1: [2]},
    ((), ()), (None,), (True,), (0,), (1, 2), ("",), ([],), ({},), ("no", ["yes"]), ([("no", "yes")],),
    ((((),),),), nested(40), (nested(39),), TooGreat(),
)
OBJECTS = (EITHER, PAIRS, COAT, MOST, LEAST, Short(COAT), Desk(COAT))

# Values that are no ascending tuple of one to three names.
WRONG_DOMAINS = STRANGE + OBJECTS + (
    (), ("no", "no"), ("yes", "no"), ("a", "b", "c", "d"), ("a", "c", "b"), ("a", "b", "b"), ("",),
    ("ninechars",), ("A",), ("a1",), ("a b",), ("a\n",), ("no", True), ["no", "yes"], "no", ("no", ("yes",)),
    ("no", EITHER), ("\u00e9",), ("\u0661",), ("a",) * 20000,
)


def state(thing):
    """All that an object of the package tells, to compare it before and after."""
    if isinstance(thing, (Table, Book, Form, Vote, Choice, Short, Desk)):
        return (thing.__class__.__name__,) + tuple((name, state(part)) for name, part in sorted(vars(thing).items()))
    if isinstance(thing, (list, tuple)):
        return [thing.__class__.__name__] + [state(part) for part in thing]
    if isinstance(thing, dict):
        return ["dict"] + [(state(key), state(part)) for key, part in thing.items()]
    return repr(thing)


class Checks:
    """Checks that several test cases use."""

    def fails(self, error, kept, call, *told, **named):
        """The call raises this error with these attributes, and changes nothing."""
        before = state([told, named, STRANGE, OBJECTS])
        with self.assertRaises(error) as caught:
            call(*told, **named)
        self.assertIs(caught.exception.__class__, error)
        for name, thing in kept.items():
            self.assertEqual(getattr(caught.exception, name), thing)
            self.assertIs(getattr(caught.exception, name).__class__, thing.__class__)
        self.assertEqual(state([told, named, STRANGE, OBJECTS]), before)

    def refused(self, error, word, call, *told, **named):
        """The call raises this error with this word, and changes nothing."""
        self.fails(error, {"word": word}, call, *told, **named)

    def refused_each(self, error, word, call, things):
        """The call raises this error with this word for each of the values."""
        for thing in things:
            with self.subTest(thing=repr(thing)[:60]):
                self.refused(error, word, call, thing)

    def unchanged(self, things, call, *told):
        """What the call returns; it does not change these things."""
        before = state(things)
        found = call(*told)
        self.assertEqual(state(things), before)
        return found

    def not_equal_to_others(self, thing):
        """The object is equal to nothing of another kind, in either order."""
        for other in STRANGE + OBJECTS:
            if other.__class__ is not thing.__class__:
                self.assertFalse(thing == other, repr(other)[:60])
                self.assertTrue(thing != other, repr(other)[:60])
                self.assertFalse(other == thing, repr(other)[:60])
