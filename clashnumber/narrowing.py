"""Narrowing, and whether it is exact: a choice shows that it is, a blind form that it is not."""

from clashnumber.candidates import candidates_left
from clashnumber.forms import Form, is_answers
from clashnumber.keeping import choice_keeping
from clashnumber.proofs import derivation_of, form_of
from clashnumber.standing import derivation_holds


def narrowed(form, answers=()):
    """For each field the ascending tuple of the candidates that narrowing leaves."""
    return candidates_left(form, answers)


def examine_narrowing(book):
    """("exact", a choice that keeps the book), or ("blind", a blind form)."""
    choice, proof = choice_keeping(book)
    if proof is None:
        return ("exact", choice)
    form = form_of(book, proof)
    return ("blind", (form, proof.nogood, derivation_of(form, proof)))


def blind_holds(book, thing):
    """Whether a value is a blind form of the book."""
    if not isinstance(thing, tuple) or len(thing) != 3:
        return False
    form, answers, derivation = thing
    if not isinstance(form, Form) or form.book != book or not is_answers(form, answers):
        return False
    return () not in candidates_left(form, answers) and derivation_holds(form, answers, derivation)
