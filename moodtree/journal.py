"""Scripts done on boxes, and journal rows walked forward and back."""

from moodtree.deeds import AFTER, BEFORE, all_done, redone, undone

MARKS = ("out", "keep", "way", "in")


def performed(script, boxes):
    behind = list(boxes)
    rows = []
    called = []
    for part in script:
        if part[0] in MARKS:
            rows.append(part)
        else:
            step = all_done([part], behind)
            behind = step[0]
            rows.extend(step[1])
            called.extend(step[2])
    return (behind, rows, called)


def walked(rows, state):
    stand = state
    for row in rows:
        stand = (with_mood(row, stand[0], "in", "out"), with_keep(row, stand[1], AFTER), redone(row, stand[2]))
    return copied(stand)


def walked_back(rows, state):
    stand = state
    for row in reversed(rows):
        stand = (with_mood(row, stand[0], "out", "in"), with_keep(row, stand[1], BEFORE), undone(row, stand[2]))
    return copied(stand)


def with_mood(row, opens, coming, going):
    if row[0] == coming:
        return sorted(opens + [row[1]])
    if row[0] == going:
        return [mood for mood in opens if mood != row[1]]
    return opens


def with_keep(row, memory, place):
    behind = list(memory)
    if row[0] == "keep":
        behind[row[1]] = row[place]
    return behind


def copied(state):
    return (list(state[0]), list(state[1]), list(state[2]))


def told(rows):
    return [row for row in rows if row[0] not in MARKS]
