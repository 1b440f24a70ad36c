"""The search for fillings, which keeps a proof for each candidate that it removes."""

from clashnumber.basics import ascending, without
from clashnumber.candidates import first_candidates, lost_candidates
from clashnumber.proofs import Proof, goes_with, proof_by_field


class Search:
    """A form, made ready for searches for fillings that have some answers. A search changes nothing."""

    def __init__(self, form):
        self.domain = form.book.domain
        self.fields = form.fields
        self.checks = tuple([check_of(form, rule) for rule in form.rules])
        self.checks_of = {
            field: [at for at, (_, fields, _) in enumerate(self.checks) if field in fields] for field in form.fields
        }

    def outcome(self, answers):
        """A filling that has the answers and None, or None and a proof that some of them clash."""
        left = first_candidates(self.fields, self.domain, answers)
        return self.explored(dict(answers), left, {}, list(range(len(self.checks))))

    def explored(self, known, left, proof_of, changed):
        """As outcome, for known values, the candidates left, proofs for the others, and the checks to begin with."""
        waiting = changed
        while True:
            left, proof_of, proof = self.narrow(known, left, proof_of, waiting)
            if proof is not None:
                return None, proof
            field = self.open_field(left)
            if field is None:
                return tuple([left[each][0] for each in self.fields]), None
            value = left[field][0]
            waiting = self.checks_of[field]
            filling, proof = self.explored({**known, field: value}, {**left, field: (value,)}, proof_of, waiting)
            # A proof that does not need the field holds for its other values, too.
            if filling is not None or field not in proof.pairs:
                return filling, proof
            proof_of = {**proof_of, (field, value): proof}
            left = {**left, field: without(left[field], value)}

    def open_field(self, left):
        """The field with the fewest candidates of those that have several, or None."""
        several = [(len(left[field]), -len(self.checks_of[field]), field) for field in left if len(left[field]) > 1]
        return min(several)[2] if len(several) > 0 else None

    def narrow(self, known, left, proof_of, changed):
        """The candidates that these checks, and those that this concerns, leave, with proofs for the others.

        The third is None, or a proof if some field has no candidate left.
        """
        now = {field: left[field] for field in left}
        proofs = {pair: proof_of[pair] for pair in proof_of}
        waiting = list(changed)
        is_waiting = {at: True for at in waiting}
        while len(waiting) > 0:
            at = waiting.pop()
            is_waiting[at] = False
            _, fields, rows = self.checks[at]
            for field, value in lost_candidates(fields, rows, now):
                proof = self.proof_by_rows(at, pairs_at(field, value, fields, known), proofs)
                if field in known:
                    return now, proofs, proof
                proofs[field, value] = proof
                now[field] = without(now[field], value)
                if now[field] == ():
                    return now, proofs, proof_by_field(field, [proofs[field, each] for each in self.domain])
                more = [other for other in self.checks_of[field] if not is_waiting.get(other, False)]
                waiting.extend(more)
                for other in more:
                    is_waiting[other] = True
        return now, proofs, None

    def proof_by_rows(self, at, pairs, proof_of):
        """A proof that no row of a check goes with the pairs, if removed candidates are left out."""
        rule, fields, rows = self.checks[at]
        if is_refused(fields, rows, pairs):
            # The fewer pairs a proof has, the further the search can go back by it.
            return Proof(least_refused(fields, rows, pairs), rule, None, ())
        field = [each for each in fields if each not in pairs][0]
        parts = []
        for value in self.domain:
            longer = {**pairs, field: value}
            if (field, value) in proof_of and not is_refused(fields, rows, longer):
                parts.append(proof_of[field, value])
            else:
                parts.append(self.proof_by_rows(at, longer, proof_of))
        return proof_by_field(field, parts)


class Pool:
    """The fillings of a form that were found so far: they show of many answers that these stand."""

    def __init__(self, form):
        self.search = Search(form)
        # For each pair the sum of a power of two for each filling that has it.
        self.having = {(field, value): 0 for field in form.fields for value in form.book.domain}
        self.power = 1

    def has_filling(self, answers):
        """Whether a filling has the answers; if none that is there has them, one is looked for."""
        shared = self.power - 1
        for pair in answers:
            shared = shared & self.having[pair]
        if shared > 0:
            return True
        filling, _ = self.search.outcome(answers)
        if filling is None:
            return False
        for pair in list(zip(self.search.fields, filling)):
            self.having[pair] = self.having[pair] + self.power
        self.power = self.power * 2
        return True


def check_of(form, rule):
    """A rule, its distinct fields, and the rows of their values that it allows."""
    name, places = rule
    fields = ascending(places)
    rows = [row for row in form.book[name].rows if goes_with(row, places, {})]
    return rule, fields, tuple([tuple([row[places.index(field)] for field in fields]) for row in rows])


def pairs_at(field, value, fields, known):
    """The pair of a field and a value, and then the pairs of the known fields among some."""
    return {field: value, **{each: known[each] for each in fields if each in known}}


def is_refused(fields, rows, pairs):
    """Whether no row goes with the pairs."""
    return not any([goes_with(row, fields, pairs) for row in rows])


def least_refused(fields, rows, pairs):
    """Pairs with which no row goes, without those that are not needed; the last ones are left out first."""
    kept = dict(pairs)
    for field in list(pairs)[::-1]:
        fewer = {other: value for other, value in kept.items() if other != field}
        if is_refused(fields, rows, fewer):
            kept = fewer
    return kept
