"""Forms: fields, and rules that put the tables of a book on them."""

from clashnumber.basics import are_names, are_pairs, ascending, is_pair, is_row, text_of, words_of
from clashnumber.errors import InvalidText, NoForm

MOST_FIELDS = 30


class Form:
    """Fields, some of them hidden, and rules on them over a book."""

    def __init__(self, book, fields, *rules, hidden=()):
        if not are_names(fields) or len(fields) > MOST_FIELDS:
            raise NoForm("fields")
        if not are_names(hidden) or not all([field in fields for field in hidden]):
            raise NoForm("hidden")
        if not all([is_rule(book, fields, rule) for rule in rules]):
            raise NoForm("rule")
        self.book = book
        self.fields = ascending(fields)
        self.hidden = ascending(hidden)
        self.shown = tuple([field for field in self.fields if field not in self.hidden])
        self.rules = ascending(rules)
        self.text = text_of(form_lines(self.fields, self.hidden, self.rules))

    @classmethod
    def read(cls, book, text):
        """The form over this book that has exactly this text."""
        fields, hidden, rules = parts_told(words_of(text))
        try:
            form = cls(book, fields, *rules, hidden=hidden)
        except NoForm:
            raise InvalidText() from None
        if form.text != text:
            raise InvalidText()
        return form

    def __eq__(self, other):
        return (
            isinstance(other, Form)
            and self.book == other.book
            and self.fields == other.fields
            and self.hidden == other.hidden
            and self.rules == other.rules
        )

    def __and__(self, other):
        if not isinstance(other, Form) or self.book != other.book:
            raise NoForm("book")
        if have_common(self.hidden, other.fields) or have_common(other.hidden, self.fields):
            raise NoForm("hidden")
        fields = ascending(self.fields + other.fields)
        rules = self.rules + other.rules
        hidden = self.hidden + other.hidden
        # More than thirty fields are refused when the form is made.
        return Form(self.book, fields, *rules, hidden=hidden)

    def with_rules(self, *rules):
        """The form with more rules."""
        more = self.rules + rules
        return Form(self.book, self.fields, *more, hidden=self.hidden)

    def without_rules(self, *rules):
        """The form without these of its rules."""
        # What is no rule at all may have no hash, so it must not get into the set.
        are_rules = all([is_rule(self.book, self.fields, rule) for rule in rules])
        if not are_rules or len(set(rules) - set(self.rules)) > 0:
            raise NoForm("rule")
        kept = sorted(set(self.rules) - set(rules))
        return Form(self.book, self.fields, *kept, hidden=self.hidden)

    def hiding(self, *fields):
        """The form in which these fields are hidden, too."""
        if not all([field in self.fields for field in fields]):
            raise NoForm("hidden")
        hidden = ascending(self.hidden + fields)
        return Form(self.book, self.fields, *self.rules, hidden=hidden)

    def renamed(self, field, name):
        """The form in which the field has this name."""
        if field not in self.fields:
            raise NoForm("fields")
        # What is no name, or another field, is refused when the form is made.
        fields = exchanged(self.fields, field, name)
        hidden = exchanged(self.hidden, field, name)
        rules = [(table, exchanged(places, field, name)) for table, places in self.rules]
        return Form(self.book, fields, *rules, hidden=hidden)


def is_rule(book, fields, thing):
    """Whether a value is a rule of a table of the book on some of these fields."""
    if not is_pair(thing):
        return False
    name, places = thing
    return name in book and is_row(places, fields, book[name].width)


def have_common(fields, others):
    """Whether some field is among the others."""
    return any([field in others for field in fields])


def exchanged(fields, field, name):
    """These fields, with the name in each place of the one field."""
    return tuple([name if known == field else known for known in fields])


def form_lines(fields, hidden, rules):
    """The words of the lines of a form's text."""
    concealed = [("hidden",) + hidden] if len(hidden) > 0 else []
    return [("fields",) + fields] + concealed + [("rule", table) + places for table, places in rules]


def parts_told(lines):
    """The fields, the hidden fields and the rules that the lines of a form's text tell."""
    # A line that tells nothing is left out: then the form has another text, and is refused for that.
    fields = tuple(lines[0][1:])
    hidden = tuple([field for words in lines if words[0] == "hidden" for field in words[1:]])
    rules = [(words[1], tuple(words[2:])) for words in lines if words[0] == "rule" and len(words) > 1]
    return fields, hidden, rules


def is_filling(form, thing):
    """Whether a value is a filling of the form."""
    if not is_row(thing, form.book.domain, len(form.fields)):
        return False
    value_of = dict(zip(form.fields, thing))
    return all([tuple([value_of[field] for field in fields]) in form.book[name] for name, fields in form.rules])


def is_answers(form, thing):
    """Whether a value is answers to the form."""
    return are_pairs(thing, form.shown, form.book.domain)


def fillings(form, answers=()):
    """Yield all fillings of the form that have the answers, ascending."""
    value_of = dict(answers)
    columns = [(value_of[field],) if field in value_of else form.book.domain for field in form.fields]
    checks = checks_of(form)
    begun = [()]
    while len(begun) > 0:
        filling = begun.pop()
        at = len(filling)
        if at == len(columns):
            yield filling
        else:
            # The least one is put last, since the last one is taken first.
            longer = [filling + (value,) for value in columns[at][::-1]]
            begun.extend([row for row in longer if is_allowed(row, checks[at])])


def checks_of(form):
    """For each field the rules that it is the last field of, as (rows, places of the fields)."""
    checks = [[] for _ in form.fields]
    for name, fields in form.rules:
        places = [form.fields.index(field) for field in fields]
        checks[max(places)].append((form.book[name].rows, places))
    return checks


def is_allowed(filling, checks):
    """Whether the values at the places of each check are one of its rows."""
    return all([tuple([filling[place] for place in places]) in rows for rows, places in checks])
