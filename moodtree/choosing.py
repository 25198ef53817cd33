"""Which ways go: what leaves may go at a sign, what they pick, and which picks are kept."""

from moodtree.chart import ASKS, SIGN, SOURCE, TARGET
from moodtree.roads import top
from moodtree.sums import all_hold
from moodtree.tree import above, depth, within


def goable(chart, opens, leaf, sign):
    line = [leaf] + above(chart.tree, leaf)
    found = []
    for number, way in enumerate(chart.ways):
        if way[SIGN] == sign and way[SOURCE] in line and fits(way[ASKS], opens):
            found.append(number)
    return sorted(found, key=lambda way: line.index(chart.ways[way][SOURCE]))


def fits(asks, opens):
    for ask in asks:
        if ask[0] == "open" and ask[1] not in opens:
            return False
        if ask[0] == "shut" and ask[1] in opens:
            return False
    return True


def number_asks(chart, way):
    return tuple([ask for ask in chart.ways[way][ASKS] if ask[0] not in ("open", "shut")])


def open_leaves(chart, opens):
    return [mood for mood in opens if chart.tree.kinds[mood] == "leaf"]


def picks(chart, opens, boxes, sign):
    found = {}
    for leaf in open_leaves(chart, opens):
        for number in goable(chart, opens, leaf, sign):
            if all_hold(number_asks(chart, number), boxes):
                found[number] = True
                break
    return list(found)


def has_target(chart, number):
    return chart.ways[number][TARGET] != -1


def way_top(chart, number):
    way = chart.ways[number]
    return top(chart.tree, way[SOURCE], way[TARGET])


def meet(chart, one, other):
    if not has_target(chart, one) or not has_target(chart, other):
        return False
    return tops_meet(chart.tree, way_top(chart, one), way_top(chart, other))


def tops_meet(tree, one, other):
    if one == other or one == -1 or other == -1:
        return True
    return within(tree, one, other) or within(tree, other, one)


def kept(chart, found):
    chosen = []
    tops = []
    for number in sorted(found, key=lambda way: -depth(chart.tree, chart.ways[way][SOURCE])):
        if has_target(chart, number):
            upper = way_top(chart, number)
            if any([tops_meet(chart.tree, upper, other) for other in tops]):
                continue
            tops.append(upper)
        chosen.append(number)
    return sorted(chosen)
