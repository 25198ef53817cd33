"""Moves along kept ways, and the beginning of a chart, as scripts of marks and deeds."""

from moodtree.chart import DEEDS, MODE, TARGET
from moodtree.choosing import has_target, way_top
from moodtree.opening import entered, left, opened, remembered
from moodtree.tree import within


def heeded(chart, mood):
    if chart.tree.kinds[mood] != "one":
        return False
    for way in chart.ways:
        if way[MODE] != "new" and way[TARGET] == mood:
            return True
        if way[MODE] == "far" and within(chart.tree, mood, way[TARGET]):
            return True
    return False


def moved(chart, opens, memory, ways):
    going = [number for number in ways if has_target(chart, number)]
    gone = all_left(chart, opens, going)
    behind = remembered(chart.tree, memory, opens, [mood for mood in gone if heeded(chart, mood)])
    come = all_entered(chart, behind, going)
    script = out_rows(chart, gone, memory, behind) + way_rows(chart, ways) + in_rows(chart, come)
    return (script, sorted([mood for mood in opens if mood not in gone] + come), behind)


def begun(chart):
    memory = [-1] * len(chart.names)
    opens = opened(chart.tree, memory, 0, "new")
    return (in_rows(chart, opens), opens, memory)


def all_left(chart, opens, going):
    gone = []
    for number in going:
        gone.extend(left(chart.tree, opens, way_top(chart, number)))
    return sorted(gone, reverse=True)


def all_entered(chart, memory, going):
    come = []
    for number in going:
        way = chart.ways[number]
        come.extend(entered(chart.tree, memory, way_top(chart, number), way[TARGET], way[MODE]))
    return sorted(come)


def out_rows(chart, gone, memory, behind):
    rows = []
    for mood in gone:
        rows.append(("out", mood))
        if heeded(chart, mood):
            rows.append(("keep", mood, memory[mood], behind[mood]))
        rows.extend(chart.outs[mood])
    return rows


def way_rows(chart, ways):
    rows = []
    for number in ways:
        rows.append(("way", number))
        rows.extend(chart.ways[number][DEEDS])
    return rows


def in_rows(chart, come):
    rows = []
    for mood in come:
        rows.append(("in", mood))
        rows.extend(chart.ins[mood])
    return rows
