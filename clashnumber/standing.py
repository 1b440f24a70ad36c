"""Answers stand, or they clash and a derivation shows it."""

from clashnumber.basics import are_pairs, is_integer, is_pair
from clashnumber.candidates import candidates_left
from clashnumber.errors import TooGreat
from clashnumber.keeping import choice_keeping, number_of
from clashnumber.proofs import derivation_of, goes_with
from clashnumber.searches import Search

MOST_CANDIDATES = 10000


def standing(form, answers=()):
    """("stands", a filling that has the answers), or ("clashes", a derivation for them)."""
    if is_great(form):
        raise TooGreat()
    filling, proof = Search(form).outcome(answers)
    if proof is None:
        return ("stands", filling)
    return ("clashes", derivation_of(form, proof))


def is_great(form):
    """Whether it could take too long to look for fillings of the form."""
    size = 1
    for values in candidates_left(form, ()):
        size = size * len(values)
    return size > MOST_CANDIDATES and number_of(form.book) is None and choice_keeping(form.book)[0] is None


def derivation_holds(form, answers, thing):
    """Whether a value is a derivation for answers to the form."""
    if not isinstance(thing, tuple):
        return False
    nogoods = []
    for step in thing:
        if not is_pair(step) or not are_pairs(step[0], form.fields, form.book.domain):
            return False
        nogood = dict(step[0])
        if not is_rule_reason(form, nogood, step[1]) and not is_field_reason(form, nogood, step[1], nogoods):
            return False
        nogoods.append(nogood)
    return any([is_among(nogood, dict(answers)) for nogood in nogoods])


def is_rule_reason(form, nogood, thing):
    """Whether a value is a reason by a rule no row of which goes with the nogood."""
    if not is_pair(thing) or thing[0] != "rule" or not is_index(thing[1], form.rules):
        return False
    name, fields = form.rules[thing[1]]
    return not any([goes_with(row, fields, nogood) for row in form.book[name].rows])


def is_field_reason(form, nogood, thing, nogoods):
    """Whether a value is a reason by a field, with an earlier nogood for each of its values."""
    if not isinstance(thing, tuple) or len(thing) != 3 or thing[0] != "field":
        return False
    _, field, numbers = thing
    if field not in form.fields or field in nogood:
        return False
    if not isinstance(numbers, tuple) or len(numbers) != len(form.book.domain):
        return False
    if not all([is_index(number, nogoods) for number in numbers]):
        return False
    parts = [nogoods[number] for number in numbers]
    return all([is_among(part, {**nogood, field: value}) for value, part in zip(form.book.domain, parts)])


def is_index(thing, items):
    """Whether a value is the number of one of the items."""
    return is_integer(thing) and 0 <= thing < len(items)


def is_among(pairs, others):
    """Whether all pairs of the one dict are pairs of the other."""
    return all([others.get(field) == value for field, value in pairs.items()])
