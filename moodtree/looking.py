"""Charts looked at: what is right in them, and which refusal comes first where something is not."""

from moodtree.chart import ASKS, DEEDS, MODE, SIGN, SOURCE, TARGET, is_name
from moodtree.errors import BadBox, BadDeed, BadName, BadTree, BadWay
from moodtree.tree import above, depth

KINDS = ("leaf", "one", "all")
MARKS = ("<", "<=", "=", "!=")
MODES = ("new", "near", "far")
DEEPEST = 12


def looked(chart):
    if not is_tree_right(chart.tree, chart.names):
        raise BadTree()
    if not are_names_right(chart.names):
        raise BadName()
    if not are_boxes_right(chart.boxes):
        raise BadBox()
    if not are_deeds_right(chart):
        raise BadDeed()
    if not are_ways_right(chart):
        raise BadWay()


def is_tree_right(tree, names):
    many = len(tree.kinds)
    if many == 0 or len(tree.elders) != many or len(tree.starts) != many or len(names) != many:
        return False
    return are_elders_right(tree) and are_kinds_right(tree) and are_starts_right(tree)


def are_elders_right(tree):
    if tree.elders[0] != -1:
        return False
    for mood in range(1, len(tree.elders)):
        # Mood by mood: what is walked upward here has been found right, so the walk ends.
        line = [mood - 1] + above(tree, mood - 1)
        if tree.elders[mood] not in line or depth(tree, mood) > DEEPEST:
            return False
    return True


def are_kinds_right(tree):
    with_inner = {}
    for elder in tree.elders:
        with_inner[elder] = True
    for mood, kind in enumerate(tree.kinds):
        if kind not in KINDS or (kind == "leaf") == (mood in with_inner):
            return False
    return True


def are_starts_right(tree):
    for mood, start in enumerate(tree.starts):
        if tree.kinds[mood] != "one":
            if start != -1:
                return False
        elif not is_place(start, tree.elders) or tree.elders[start] != mood:
            return False
    return True


def are_names_right(names):
    for name in names:
        if not is_name(name):
            return False
    return len(set(names)) == len(names)


def are_boxes_right(boxes):
    for box in boxes:
        if not is_bounded(box[1]):
            return False
    return are_names_right([box[0] for box in boxes])


def are_deeds_right(chart):
    many = len(chart.names)
    if len(chart.ins) != many or len(chart.outs) != many:
        return False
    for deeds in chart.ins + chart.outs + [way[DEEDS] for way in chart.ways]:
        for deed in deeds:
            if not is_deed_right(chart, deed):
                return False
    return True


def are_ways_right(chart):
    last = 0
    for way in chart.ways:
        if way[SOURCE] < last or not is_way_right(chart, way):
            return False
        last = way[SOURCE]
    return True


def is_way_right(chart, way):
    target = way[TARGET]
    mode = way[MODE]
    if not is_place(way[SOURCE], chart.names) or not is_name(way[SIGN]) or mode not in MODES:
        return False
    if target == -1:
        if mode != "new":
            return False
    elif not is_place(target, chart.names):
        return False
    for ask in way[ASKS]:
        if not is_ask_right(chart, ask):
            return False
    return True


def is_ask_right(chart, ask):
    mark = ask[0]
    if mark in ("open", "shut"):
        return is_place(ask[1], chart.names)
    return mark in MARKS and is_term_right(chart, ask[1]) and is_term_right(chart, ask[2])


def is_deed_right(chart, deed):
    word = deed[0]
    if word == "put":
        return is_place(deed[1], chart.boxes) and is_term_right(chart, deed[2])
    if word == "say":
        return is_name(deed[1]) and is_term_right(chart, deed[2])
    return word == "call" and is_name(deed[1])


def is_term_right(chart, term):
    return (term[0] == -1 or is_place(term[0], chart.boxes)) and is_bounded(term[1])


def is_place(number, row):
    # An index below nought would read from the row's end.
    return 0 <= number < len(row)


def is_bounded(number):
    return -(10 ** 30) < number < 10 ** 30
