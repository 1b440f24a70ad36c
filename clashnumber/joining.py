"""Short tables of a join, worked out from those of its parts.

Short tables are told by a dict: for each ascending tuple of a few fields the ascending tuple of its rows. While they
are worked out, a row is told by its pairs (field, value), and a set of pairs by a number with a bit for each.
"""

from clashnumber.basics import all_rows, ascending, sets_up_to, without


def tables_joined(fields, domain, length, parts):
    """The short tables over these fields of the join of what has the parts, each some tables of its own."""
    told = rows_told(parts)
    rows_of = {some: all_rows([domain] * len(some)) for some in sets_up_to(fields, length)}
    first = [tuple(zip(some, row)) for some in rows_of for row in rows_of[some] if row in told.get(some, (row,))]
    left = rows_left(first, fields, domain, length)
    return {some: tuple([row for row in rows_of[some] if tuple(zip(some, row)) in left]) for some in rows_of}


def rows_told(parts):
    """For some fields the rows that no part with a table over them lacks."""
    told = {}
    for part in parts:
        for some, rows in part.items():
            told[some] = [row for row in told.get(some, rows) if row in rows]
    return told


def rows_left(rows, fields, domain, length):
    """The rows that are left if those are removed that lack a part, or for which some field has no value."""
    bit_of = bits_of(fields, domain)
    masks = [sum([bit_of[field, value] for value in domain]) for field in fields]
    left = {row: True for row in rows}
    while True:
        beside = bits_beside(left, bit_of)
        kept = {row: True for row in left if is_whole(row, left) and goes_on(row, length, bit_of, beside, masks)}
        if len(kept) == len(left):
            return kept
        left = kept


def is_whole(row, rows):
    """Whether the row without any one of its pairs is among the rows."""
    return all([without(row, pair) in rows for pair in row])


def goes_on(row, length, bit_of, beside, masks):
    """Whether for each other field some value makes rows of all parts of this row that can be longer."""
    parts = [row] if len(row) < length else [without(row, pair) for pair in row]
    shared = beside.get(parts[0], 0)
    for part in parts[1:]:
        shared = shared & beside.get(part, 0)
    reached = shared | sum([bit_of[pair] for pair in row])
    return all([reached & mask > 0 for mask in masks])


def bits_of(fields, domain):
    """A number with one bit for each pair of a field and a value."""
    pairs = [(field, value) for field in fields for value in domain]
    return {pair: 1 << at for at, pair in enumerate(pairs)}


def bits_beside(rows, bit_of):
    """For each part of the rows that lacks one pair, the bits of the pairs that make a row of it."""
    beside = {}
    for row in rows:
        for pair in row:
            part = without(row, pair)
            beside[part] = beside.get(part, 0) | bit_of[pair]
    return beside


def tables_of_rows(fields, rows, length):
    """The short tables of rows of values of these fields."""
    return {
        some: ascending([tuple([row[fields.index(field)] for field in some]) for row in rows])
        for some in sets_up_to(fields, length)
    }
