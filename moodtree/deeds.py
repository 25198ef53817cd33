"""Deeds done one by one and in rows, journal rows undone and redone."""

from moodtree.sums import value

# Where a put's journal row keeps the two numbers of its box.
BEFORE = 2
AFTER = 3


def done(deed, boxes):
    word = deed[0]
    if word == "put":
        row = ("put", deed[1], boxes[deed[1]], value(deed[2], boxes))
    elif word == "say":
        row = ("say", deed[1], value(deed[2], boxes))
    else:
        row = ("call", deed[1])
    return (redone(row, boxes), row)


def undone(row, boxes):
    return with_number(row, BEFORE, boxes)


def redone(row, boxes):
    return with_number(row, AFTER, boxes)


def with_number(row, place, boxes):
    # A copy also where nothing is set: what is told is the asker's own.
    behind = list(boxes)
    if row[0] == "put":
        behind[row[1]] = row[place]
    return behind


def all_done(deeds, boxes):
    behind = list(boxes)
    rows = []
    called = []
    for deed in deeds:
        step = done(deed, behind)
        behind = step[0]
        rows.append(step[1])
        if deed[0] == "call":
            called.append(deed[1])
    return (behind, rows, called)
