"""Narrowing: the candidates that the rules of a form leave for its fields."""


def candidates_left(form, answers):
    """For each field, in their order, the ascending tuple of the candidates that narrowing leaves."""
    left = first_candidates(form.fields, form.book.domain, answers)
    rules_of = {field: [rule for rule in form.rules if field in rule[1]] for field in form.fields}
    waiting = list(form.rules)
    is_waiting = {rule: True for rule in form.rules}
    while len(waiting) > 0:
        rule = waiting.pop()
        is_waiting[rule] = False
        name, fields = rule
        for field, value in lost_candidates(fields, form.book[name].rows, left):
            left[field] = without(left[field], value)
            more = [other for other in rules_of[field] if not is_waiting[other]]
            waiting.extend(more)
            for other in more:
                is_waiting[other] = True
    return tuple([left[field] for field in form.fields])


def first_candidates(fields, domain, answers):
    """The candidates of each field before any rule is used."""
    value_of = dict(answers)
    return {field: (value_of[field],) if field in value_of else domain for field in fields}


def lost_candidates(fields, rows, left):
    """The pairs of a field and a candidate of it that no possible row has at some place of the field."""
    possible = [row for row in rows if all([value in left[field] for field, value in zip(fields, row)])]
    columns = list(zip(*possible)) if len(possible) > 0 else [()] * len(fields)
    return [
        (field, value) for field, column in zip(fields, columns) for value in left[field] if value not in column
    ]


def without(values, value):
    """These values without the one."""
    return tuple([other for other in values if other != value])
