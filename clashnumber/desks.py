"""Desks: a form that is answered, and changed, while its answers stand."""

from clashnumber.basics import ascending, without
from clashnumber.clashes import clash_among
from clashnumber.errors import Clash, InUse, MoreThan, NoAnswer, NoBook, NoField, NoValue, TooGreat
from clashnumber.forms import Form
from clashnumber.numbers import examine
from clashnumber.searches import Search
from clashnumber.standing import is_great


class Desk:
    """A form, answers to it that stand, and a bound for the clash number of its book."""

    def __init__(self, form, answers=(), *, bound=None):
        check_within(form.book, bound)
        check_not_great(form)
        check_standing(form, answers)
        self._form = form
        self._bound = bound
        self._answers = answers
        self._answered = fields_of(answers)

    @property
    def form(self):
        """The form."""
        return self._form

    @property
    def answers(self):
        """The answers."""
        return self._answers

    @property
    def settled(self):
        """The pairs of a field without an answer and the only value that is open for it."""
        return settled_pairs(self._form, self._answers)

    @property
    def bound(self):
        """The bound, or None."""
        return self._bound

    @bound.setter
    def bound(self, value):
        self.set_bound(value)

    def set_bound(self, bound):
        """Put this bound in the place of the one there is."""
        check_within(self._form.book, bound)
        self._bound = bound

    def __getitem__(self, field):
        check_shown(self._form, field)
        return dict(self._answers).get(field)

    def __setitem__(self, field, value):
        self.answer(field, value)

    def __contains__(self, field):
        return field in self._answered

    def __len__(self):
        return len(self._answered)

    def __iter__(self):
        return iter(self._answered)

    def answer(self, field, value):
        """Give an answer, in the place of an earlier one to this field."""
        self._answers = answers_with(self._form, self._answers, field, value)
        self._answered = fields_of(self._answers)

    def take_back(self, *fields):
        """Remove the answers to these fields."""
        for field in fields:
            if field not in self._answered:
                raise NoAnswer(field)
        self._answers = tuple([pair for pair in self._answers if pair[0] not in fields])
        self._answered = fields_of(self._answers)

    def trial(self, *answers):
        """The answers and the settled fields as they would be after these answers."""
        given = self._answers
        for field, value in answers:
            given = answers_with(self._form, given, field, value)
        return given, settled_pairs(self._form, given)

    def open_values(self, field):
        """The values of a shown field that stand together with the other answers."""
        check_shown(self._form, field)
        search = Search(self._form)
        values = self._form.book.domain
        return tuple([
            value for value in values if search.outcome(replaced(self._answers, field, value))[0] is not None
        ])

    def why_not(self, field, value):
        """None if the value is open, otherwise a least clash among the other answers and this one."""
        check_shown(self._form, field)
        check_value(self._form, value)
        return clash_among(self._form, replaced(self._answers, field, value))

    def filling(self):
        """A filling that has the answers."""
        return Search(self._form).outcome(self._answers)[0]

    def add_rules(self, *rules):
        """Add rules to the form."""
        form = self._form.with_rules(*rules)
        check_standing(form, self._answers)
        self._form = form

    def drop_rules(self, *rules):
        """Remove rules from the form."""
        form = self._form.without_rules(*rules)
        check_not_great(form)
        self._form = form

    def add_field(self, field, *, hidden=False):
        """Add a field to the form."""
        concealed = self._form.hidden + ((field,) if hidden else ())
        form = form_with(self._form, self._form.fields + (field,), concealed)
        check_not_great(form)
        self._form = form

    def drop_field(self, field):
        """Remove a field that no rule and no answer has."""
        if field not in self._form.fields:
            raise NoField(field)
        if field in self._answered or any([field in places for _, places in self._form.rules]):
            raise InUse(field)
        self._form = form_with(self._form, without(self._form.fields, field), without(self._form.hidden, field))

    def hide(self, field):
        """Hide a shown field that has no answer."""
        check_shown(self._form, field)
        if field in self._answered:
            raise InUse(field)
        self._form = self._form.hiding(field)

    def show(self, field):
        """Show a hidden field."""
        if field not in self._form.hidden:
            raise NoField(field)
        self._form = form_with(self._form, self._form.fields, without(self._form.hidden, field))

    def add_table(self, name, table):
        """Add a table to the book of the form."""
        book = self._form.book.with_table(name, table)
        check_within(book, self._bound)
        form = form_over(self._form, book)
        check_not_great(form)
        self._form = form

    def drop_table(self, name):
        """Remove a table that no rule has from the book of the form."""
        book = self._form.book
        if name not in book:
            raise NoBook("name")
        if any([table == name for table, _ in self._form.rules]):
            raise InUse(name)
        kept = without(book.names, name)
        self._form = form_over(self._form, book.only(*kept))


def fields_of(answers):
    """The fields that have the answers."""
    return tuple([field for field, _ in answers])


def replaced(answers, field, value):
    """The answers with this one, in the place of an earlier one to the field."""
    return ascending([pair for pair in answers if pair[0] != field] + [(field, value)])


def answers_with(form, answers, field, value):
    """As replaced, for any values; raise an error if these are no answers to the form that stand."""
    check_shown(form, field)
    check_value(form, value)
    given = replaced(answers, field, value)
    check_standing(form, given)
    return given


def settled_pairs(form, answers):
    """The pairs of a shown field without an answer and the only value that stands together with the answers."""
    found = fillings_apart(form, answers)
    columns = list(zip(*found))
    answered = fields_of(answers)
    return tuple([
        (field, column[0])
        for field, column in zip(form.fields, columns)
        if field in form.shown and field not in answered and len(set(column)) == 1
    ])


def fillings_apart(form, answers):
    """Fillings that have the answers, and among them each open value of each shown field without an answer."""
    search = Search(form)
    answered = fields_of(answers)
    found = [search.outcome(answers)[0]]
    for place, field in enumerate(form.fields):
        if field in form.shown and field not in answered:
            for value in form.book.domain:
                # One filling shows of all its values that they are open.
                if value not in [filling[place] for filling in found]:
                    more, _ = search.outcome(replaced(answers, field, value))
                    found.extend([] if more is None else [more])
    return found


def form_with(form, fields, hidden):
    """The form with these fields and hidden fields instead."""
    return Form(form.book, fields, *form.rules, hidden=hidden)


def form_over(form, book):
    """The form over this book instead."""
    return Form(book, form.fields, *form.rules, hidden=form.hidden)


def check_within(book, bound):
    """Raise an error if the bound is none for the book, or if the clash number is greater."""
    if bound is not None:
        told, thing = examine(book, bound)
        if told == "more":
            raise MoreThan(thing)


def check_not_great(form):
    """Raise an error if the form is great."""
    if is_great(form):
        raise TooGreat()


def check_standing(form, answers):
    """Raise an error with a least clash that the answers contain, if they clash."""
    clash = clash_among(form, answers)
    if clash is not None:
        raise Clash(clash)


def check_shown(form, field):
    """Raise an error if a value is no shown field of the form."""
    if field not in form.shown:
        raise NoField(field)


def check_value(form, value):
    """Raise an error if a value is no value of the form's book."""
    if value not in form.book.domain:
        raise NoValue(value)
