"""Least clashes: answers that clash, but stand as soon as any one of them is left out."""

from clashnumber.basics import without
from clashnumber.errors import NoClash, TooGreat
from clashnumber.forms import is_answers, is_filling
from clashnumber.keeping import number_of
from clashnumber.proofs import derivation_of
from clashnumber.searches import Pool, Search
from clashnumber.standing import derivation_holds, is_great


def least_clash(form, answers):
    """A least clash that the answers contain, fillings that have all of it but one, and a derivation for it."""
    if is_great(form):
        raise TooGreat()
    search = Search(form)
    found, proof = search.outcome(answers)
    if proof is None:
        raise NoClash(found)
    least, filling_without = least_proof(search, answers, proof)
    clash = least.nogood
    return clash, tuple([filling_without[pair] for pair in clash]), derivation_of(form, least)


def clash_among(form, answers):
    """A least clash that the answers contain, or None if they stand; the form is not great."""
    search = Search(form)
    _, proof = search.outcome(answers)
    return None if proof is None else least_proof(search, answers, proof)[0].nogood


def least_proof(search, answers, proof):
    """Of a proof that some of the answers clash, one of a least clash; and for each of its pairs a filling without."""
    least = proof
    filling_without = {}
    for pair in answers:
        if pair in least.nogood:
            found, smaller = search.outcome(without(least.nogood, pair))
            if smaller is None:
                filling_without[pair] = found
            else:
                least = smaller
    return least, filling_without


def least_clash_holds(form, thing):
    """Whether a value is what least_clash returns for some answers to the form."""
    if not isinstance(thing, tuple) or len(thing) != 3:
        return False
    clash, found, derivation = thing
    if not is_answers(form, clash) or not isinstance(found, tuple) or len(found) != len(clash):
        return False
    if not all([is_filling_with(form, filling, without(clash, pair)) for pair, filling in zip(clash, found)]):
        return False
    return derivation_holds(form, clash, derivation)


def is_filling_with(form, thing, answers):
    """Whether a value is a filling of the form that has the answers."""
    return is_filling(form, thing) and all([thing[form.fields.index(field)] == value for field, value in answers])


def least_clashes(form):
    """All least clashes of the form, those with fewer answers first."""
    if is_great(form):
        raise TooGreat()
    pool = Pool(form)
    if not pool.has_filling(()):
        return ((),)
    # No least clash has more answers than the clash number of the book.
    number = number_of(form.book)
    most = len(form.shown) if number is None else number
    clashes = []
    stand = {(): True}
    for _ in range(most):
        longer = longer_answers(form, stand)
        stand = {answers: True for answers in longer if pool.has_filling(answers)}
        clashes.extend([answers for answers in longer if answers not in stand])
    return tuple(clashes)


def longer_answers(form, stand):
    """All answers with one pair more than these have that are among these if any one is left out; ascending, too."""
    longer = [
        answers + ((field, value),)
        for answers in stand
        for field in form.shown
        if answers == () or answers[-1][0] < field
        for value in form.book.domain
    ]
    return [answers for answers in longer if all([without(answers, pair) in stand for pair in answers])]
