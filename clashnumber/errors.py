"""The errors of the package. Each keeps what it was made with as an attribute."""


class ClashnumberError(Exception):
    """The base class of all errors of this package."""


class NoTable(ClashnumberError):
    """Something is no table; the word tells which part of it."""

    def __init__(self, word):
        self.word = word


class NoBook(ClashnumberError):
    """Something is no book; the word tells which part of it."""

    def __init__(self, word):
        self.word = word


class NoForm(ClashnumberError):
    """Something is no form; the word tells which part of it."""

    def __init__(self, word):
        self.word = word


class NoVote(ClashnumberError):
    """Something is no vote; the word tells which part of it."""

    def __init__(self, word):
        self.word = word


class NoChoice(ClashnumberError):
    """Something is no choice; the word tells which part of it."""

    def __init__(self, word):
        self.word = word


class NoBound(ClashnumberError):
    """A number is no bound for the clash number of a book."""

    def __init__(self, number):
        self.number = number


class NoNumber(ClashnumberError):
    """The clash number of a book is not known."""


class NoClash(ClashnumberError):
    """Answers do not clash: a filling that has them was found."""

    def __init__(self, found):
        self.found = found


class NoField(ClashnumberError):
    """A form has no such field, or it may not be used here."""

    def __init__(self, field):
        self.field = field


class NoValue(ClashnumberError):
    """A book has no such value."""

    def __init__(self, value):
        self.value = value


class NoAnswer(ClashnumberError):
    """A field has no answer."""

    def __init__(self, field):
        self.field = field


class InUse(ClashnumberError):
    """A field or a table is still needed."""

    def __init__(self, name):
        self.name = name


class Clash(ClashnumberError):
    """Answers clash; the pairs are a least clash among them."""

    def __init__(self, pairs):
        self.pairs = pairs


class MoreThan(ClashnumberError):
    """The clash number exceeds a bound; the worst form shows it."""

    def __init__(self, worst):
        self.worst = worst


class TooGreat(ClashnumberError):
    """A form is great: looking for its fillings could take too long."""


class InvalidText(ClashnumberError):
    """A value is not the text of a book or form."""
