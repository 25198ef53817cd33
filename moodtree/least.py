"""Alike flats and the least table."""

from moodtree.flat import Table
from moodtree.journal import told


def classes(table):
    found = numbered([seen(table, number) for number in range(len(table.flats))])
    many = 0
    # Each round tells apart what one more row leads to; once a round parts no class, no later one does.
    while len(set(found)) > many:
        many = len(set(found))
        found = numbered([(found[number], led(table, number, found)) for number in range(len(found))])
    return found


def numbered(marks):
    places = {}
    for mark in marks:
        places.setdefault(mark, len(places))
    return [places[mark] for mark in marks]


def seen(table, number):
    return tuple([seen_at(table, number, sign) for sign in table.signs])


def seen_at(table, number, sign):
    # What tells flats apart at once: a list's rows without where they lead.
    return tuple([(tuple(row[0]), tuple(told(row[1]))) for row in table.rows[(number, sign)]])


def led(table, number, found):
    places = []
    for sign in table.signs:
        for row in table.rows[(number, sign)]:
            places.append(found[row[2]])
    return tuple(places)


def merged(table):
    found = classes(table)
    chosen = [number for number in range(len(found)) if found.index(found[number]) == number]
    rows = {}
    for place, number in enumerate(chosen):
        for sign in table.signs:
            rows[(place, sign)] = merged_rows(table.rows[(number, sign)], found)
    flats = [table.flats[number] for number in chosen]
    return Table(table.boxes, table.signs, told(table.begin), flats, rows)


def merged_rows(rows, found):
    return [(tuple(row[0]), tuple(told(row[1])), found[row[2]]) for row in rows]
