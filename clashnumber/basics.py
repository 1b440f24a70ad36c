"""What the other modules share: names, rows, pairs, and the words of texts."""

from clashnumber.errors import InvalidText

LETTERS = "abcdefghijklmnopqrstuvwxyz"
LONGEST_NAME = 8
MOST_VALUES = 3


def is_integer(thing):
    """Whether a value is an integer; True and False are none."""
    return isinstance(thing, int) and not isinstance(thing, bool)


def is_name(thing):
    """Whether a value is a string of one to eight letters a to z."""
    if not isinstance(thing, str) or len(thing) > LONGEST_NAME:
        return False
    return thing.isascii() and thing.isalpha() and thing.islower()


def are_names(thing):
    """Whether a value is a tuple of distinct names."""
    # A set takes only values that are known to be strings: others may have no hash.
    return isinstance(thing, tuple) and all([is_name(item) for item in thing]) and len(set(thing)) == len(thing)


def ascending(things):
    """The tuple of these names, rows or rules, ascending, each once."""
    return tuple(sorted(set(things)))


def is_domain(thing):
    """Whether a value is an ascending tuple of one to three names."""
    return are_names(thing) and 1 <= len(thing) <= MOST_VALUES and thing == ascending(thing)


def is_row(thing, domain, length):
    """Whether a value is a tuple of so many of these values."""
    return isinstance(thing, tuple) and len(thing) == length and all([value in domain for value in thing])


def is_pair(thing):
    """Whether a value is a tuple of two items."""
    return isinstance(thing, tuple) and len(thing) == 2


def are_pairs(thing, fields, domain):
    """Whether a value is an ascending tuple of pairs (field, value) with distinct fields among these."""
    if not isinstance(thing, tuple):
        return False
    if not all([is_pair(item) and item[0] in fields and item[1] in domain for item in thing]):
        return False
    named = tuple([field for field, _ in thing])
    return named == ascending(named)


def all_rows(columns):
    """All tuples with an item of each column; they ascend if the columns do."""
    rows = [()]
    for column in columns:
        rows = [row + (item,) for row in rows for item in column]
    return tuple(rows)


def sets_up_to(items, most):
    """All sets of at most so many of these ascending items, as ascending tuples, those with fewer items first."""
    sets = [()]
    for item in items:
        sets = sets + [some + (item,) for some in sets if len(some) < most]
    return tuple(sorted(sets, key=lambda some: (len(some), some)))


def nonempty_sets(items):
    """All nonempty sets of these ascending items, as ascending tuples, those with fewer items first."""
    return sets_up_to(items, len(items))[1:]


def without(items, item):
    """These items without the one."""
    return tuple([other for other in items if other != item])


def words_of(text):
    """The words of each line of a text."""
    if not isinstance(text, str):
        raise InvalidText()
    return [line.split(" ") for line in text.split("\n")]


def text_of(lines):
    """The text whose lines have these words."""
    return "\n".join([" ".join(words) for words in lines])
