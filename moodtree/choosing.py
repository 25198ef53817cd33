"""Which ways go: what leaves may go at a sign, what they pick, and which picks are kept."""

from moodtree.chart import ASKS, SIGN, SOURCE, TARGET
from moodtree.roads import top
from moodtree.sums import all_hold
from moodtree.tree import above, depth, within


def goable(chart, opens, leaf, sign):
    found = []
    for source in [leaf] + above(chart.tree, leaf):
        for number, way in enumerate(chart.ways):
            if way[SOURCE] == source and way[SIGN] == sign and fits(way[ASKS], opens):
                found.append(number)
    return found


def fits(asks, opens):
    for ask in asks:
        if ask[0] == "open" and ask[1] not in opens:
            return False
        if ask[0] == "shut" and ask[1] in opens:
            return False
    return True


def number_asks(chart, way):
    return tuple([ask for ask in chart.ways[way][ASKS] if ask[0] not in ("open", "shut")])


def open_leaves(chart, opens):
    return [mood for mood in opens if chart.tree.kinds[mood] == "leaf"]


def picks(chart, opens, boxes, sign):
    found = {}
    for leaf in open_leaves(chart, opens):
        for number in goable(chart, opens, leaf, sign):
            if all_hold(number_asks(chart, number), boxes):
                found[number] = True
                break
    return list(found)


def has_target(chart, number):
    return chart.ways[number][TARGET] != -1


def way_top(chart, number):
    way = chart.ways[number]
    return top(chart.tree, way[SOURCE], way[TARGET])


def meet(chart, one, other):
    if not has_target(chart, one) or not has_target(chart, other):
        return False
    first = way_top(chart, one)
    second = way_top(chart, other)
    if first == second or first == -1 or second == -1:
        return True
    return within(chart.tree, first, second) or within(chart.tree, second, first)


def kept(chart, found):
    chosen = []
    for number in sorted(found, key=lambda way: -depth(chart.tree, chart.ways[way][SOURCE])):
        if not any([meet(chart, number, other) for other in chosen]):
            chosen.append(number)
    return sorted(chosen)
