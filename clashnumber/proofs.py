"""Proofs that no filling of a form has some pairs, and the derivations that they make."""

from clashnumber.basics import ascending
from clashnumber.forms import Form


class Proof:
    """No filling has these pairs: no row of a rule goes with them, or there is a proof for each value of a field."""

    def __init__(self, pairs, rule, field, parts):
        self.pairs = pairs
        self.nogood = tuple(sorted(pairs.items()))
        self.rule = rule
        self.field = field
        self.parts = parts


def proof_by_field(field, parts):
    """A proof of all that the parts, one for each value of the field, have beside the field."""
    for part in parts:
        if field not in part.pairs:
            return part
    pairs = {other: value for part in parts for other, value in part.pairs.items() if other != field}
    return Proof(pairs, None, field, tuple(parts))


def derivation_of(form, proof):
    """The derivation with a step for each part of the proof, and its own as the last one."""
    index_of = {rule: index for index, rule in enumerate(form.rules)}
    steps = steps_of(proof)
    number_of = {step.nogood: number for number, step in enumerate(steps)}
    return tuple([(step.nogood, reason_of(step, index_of, number_of)) for step in steps])


def reason_of(step, index_of, number_of):
    """The reason of a step of a derivation."""
    if step.rule is not None:
        return ("rule", index_of[step.rule])
    return ("field", step.field, tuple([number_of[part.nogood] for part in step.parts]))


def form_of(book, proof):
    """The form with the rules that the derivation needs which the proof makes, and with their fields."""
    rules = ascending([step.rule for step in steps_of(proof) if step.rule is not None])
    return Form(book, ascending([field for _, places in rules for field in places]), *rules)


def steps_of(proof):
    """All parts of the proof, those of a part before it, and one alone of several with the same nogood."""
    is_there = {}
    steps = []
    # The parts may be nested deeper than functions can call themselves.
    waiting = [proof]
    while len(waiting) > 0:
        last = waiting[-1]
        missing = [part for part in last.parts if part.nogood not in is_there]
        if last.nogood in is_there:
            waiting.pop()
        elif len(missing) > 0:
            waiting.extend(missing)
        else:
            is_there[last.nogood] = True
            steps.append(last)
    return steps


def goes_with(row, fields, pairs):
    """Whether the fields of a rule can have the values of the row, and those of the pairs, together."""
    # Of several places of one field the last one tells its value.
    value_of = dict(zip(fields, row))
    return all([value == value_of[field] == pairs.get(field, value) for field, value in zip(fields, row)])
