"""Narrowing: the candidates that the rules of a form leave for its fields."""

from clashnumber.basics import without


def candidates_left(form, answers):
    """For each field, in their order, the ascending tuple of the candidates that narrowing leaves."""
    left = first_candidates(form.fields, form.book.domain, answers)
    rules_of = {each: [other for other in form.rules if each in other[1]] for each in form.fields}
    waiting = list(form.rules)
    is_waiting = {each: True for each in form.rules}
    while len(waiting) > 0:
        rule = waiting.pop()
        is_waiting[rule] = False
        name, fields = rule
        for field, value in lost_candidates(fields, form.book[name].rows, left):
            left[field] = without(left[field], value)
            more = [each for each in rules_of[field] if not is_waiting[each]]
            waiting.extend(more)
            for each in more:
                is_waiting[each] = True
    return tuple([left[field] for field in form.fields])


def first_candidates(fields, domain, answers):
    """The candidates of each field before any rule is used."""
    value_of = dict(answers)
    return {field: (value_of[field],) if field in value_of else domain for field in fields}


def lost_candidates(fields, rows, left):
    """The pairs of a field and a candidate of it that no possible row has at some place of the field."""
    possible = [row for row in rows if all([value in left[field] for field, value in zip(fields, row)])]
    columns = list(zip(*possible)) if len(possible) > 0 else [()] * len(fields)
    return [
        (field, value) for field, column in zip(fields, columns) for value in left[field] if value not in column
    ]
