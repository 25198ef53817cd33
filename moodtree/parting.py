"""How two flats are told apart."""

from moodtree.least import seen_at
from moodtree.search import searched


def parted(table, one, other):
    looks = looks_of(table)
    found = searched(
        (one, other),
        lambda pair: steps_of(table, pair),
        lambda pair: len(parting_signs(table, looks, pair)) > 0,
    )
    if found is None:
        return None
    return (found[0], parting_signs(table, looks, found[1])[0])


def looks_of(table):
    looks = {}
    for number in range(len(table.flats)):
        for sign in table.signs:
            looks[(number, sign)] = seen_at(table, number, sign)
    return looks


def parting_signs(table, looks, pair):
    return [sign for sign in table.signs if looks[(pair[0], sign)] != looks[(pair[1], sign)]]


def steps_of(table, pair):
    # Asked of flats that are not told apart at once: so both have as many rows.
    steps = []
    for sign in table.signs:
        rows = table.rows[(pair[0], sign)]
        others = table.rows[(pair[1], sign)]
        for number in range(len(rows)):
            steps.append(((sign, number), (rows[number][2], others[number][2])))
    return steps
