"""Paths to moods, and ways that no row goes."""

from moodtree.search import searched


def path_to(table, mood):
    found = searched(
        0,
        lambda flat: steps_of(table, flat),
        lambda flat: mood in table.flats[flat][0],
    )
    if found is None:
        return None
    return found[0]


def steps_of(table, flat):
    steps = []
    for sign in table.signs:
        for number, row in enumerate(table.rows[(flat, sign)]):
            steps.append(((sign, number), row[2]))
    return steps


def idle_ways(chart, table):
    gone = {}
    for flat in range(len(table.flats)):
        for sign in table.signs:
            for row in table.rows[(flat, sign)]:
                for part in row[1]:
                    if part[0] == "way":
                        gone[part[1]] = True
    return [way for way in range(len(chart.ways)) if way not in gone]
