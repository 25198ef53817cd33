"""What several test files need: trees and charts to ask, made by hand or drawn from a seed."""

import random

from moodtree.chart import Chart
from moodtree.flat import Table
from moodtree.tree import Tree

LEAF, ONE, ALL = "leaf", "one", "all"


def tree_of(rows):
    """A tree of rows of (kind, elder, start)."""
    return Tree([row[0] for row in rows], [row[1] for row in rows], [row[2] for row in rows])


def chain(many):
    """A tree in which each mood but the last one is a one with the next mood in it."""
    kinds = [ONE] * (many - 1) + [LEAF]
    return Tree(kinds, list(range(-1, many - 1)), list(range(1, many)) + [-1])


def wide(many):
    """An all with leaves in it."""
    return Tree([ALL] + [LEAF] * many, [-1] + [0] * many, [-1] * (many + 1))


# 0 all
#   1 one         2 leaf, 3 all (4 one (5 leaf, 6 leaf), 7 leaf)
#   8 one         9 one (10 leaf), 11 leaf
#   12 leaf
def mixed():
    return tree_of([
        (ALL, -1, -1),
        (ONE, 0, 2), (LEAF, 1, -1), (ALL, 1, -1), (ONE, 3, 6), (LEAF, 4, -1), (LEAF, 4, -1), (LEAF, 3, -1),
        (ONE, 0, 11), (ONE, 8, 10), (LEAF, 9, -1), (LEAF, 8, -1),
        (LEAF, 0, -1),
    ])


def trees():
    return [chain(1), chain(2), chain(13), wide(1), wide(40), mixed()] + [drawn_tree(seed, 30) for seed in range(20)]


def drawn_tree(seed, many, deepest=12):
    """A tree that is let, of up to `many` moods."""
    draw = random.Random(f"tree {seed}")
    elders = [-1]
    depths = [0]
    for mood in range(1, draw.randint(1, many)):
        line = [mood - 1]
        while elders[line[-1]] != -1:
            line.append(elders[line[-1]])
        line = [elder for elder in line if depths[elder] < deepest]
        elders.append(draw.choice(line[:draw.randint(1, len(line))]))
        depths.append(depths[elders[-1]] + 1)
    kinds, starts = [], []
    for mood in range(len(elders)):
        within = [place for place, elder in enumerate(elders) if elder == mood]
        kinds.append(draw.choice((ONE, ONE, ALL)) if within else LEAF)
        starts.append(draw.choice(within) if kinds[-1] == ONE else -1)
    return Tree(kinds, elders, starts)


def spelled_tree(tree):
    """All that a tree holds, as a text that tells lists from tuples."""
    return repr((tree.kinds, tree.elders, tree.starts))


def spelled(chart):
    """All that a chart holds, as a text that tells lists from tuples."""
    return repr((chart.boxes, chart.names, chart.ins, chart.outs, chart.ways)) + spelled_tree(chart.tree)


def chart_of(tree, boxes=(), ways=(), ins=None, outs=None):
    """A chart over a tree, its moods named m0, m1 and so on; `ins` and `outs` are dicts from moods to deeds."""
    moods = range(len(tree.kinds))
    return Chart(
        list(boxes),
        [f"m{mood}" for mood in moods],
        tree,
        [tuple((ins or {}).get(mood, ())) for mood in moods],
        [tuple((outs or {}).get(mood, ())) for mood in moods],
        list(ways),
    )


NUMBERS = (0, 0, 1, -1, 2, 3, -7, 10 ** 30 - 1, 1 - 10 ** 30)
SIGNS = ("go", "a", "b", "sign", "z9")


def drawn_term(draw, boxes, numbers):
    return (draw.randint(-1, len(boxes) - 1), draw.choice(numbers))


def drawn_deed(draw, boxes, numbers):
    word = draw.choice(("put", "put", "say", "call") if boxes else ("say", "call"))
    if word == "call":
        return ("call", draw.choice(SIGNS))
    if word == "say":
        return ("say", draw.choice(("hello", "m0", "b1")), drawn_term(draw, boxes, numbers))
    return ("put", draw.randrange(len(boxes)), drawn_term(draw, boxes, numbers))


def drawn_ask(draw, boxes, moods, numbers):
    if draw.random() < 0.4:
        return (draw.choice(("open", "shut")), draw.randrange(moods))
    mark = draw.choice(("<", "<=", "=", "!="))
    return (mark, drawn_term(draw, boxes, numbers), drawn_term(draw, boxes, numbers))


def drawn_way(draw, source, boxes, moods, signs, numbers):
    asks = [drawn_ask(draw, boxes, moods, numbers) for _ in range(draw.choice((0, 0, 0, 1, 1, 2)))]
    deeds = [drawn_deed(draw, boxes, numbers) for _ in range(draw.choice((0, 0, 1, 1, 2)))]
    target = draw.randrange(moods) if draw.random() < 0.85 else -1
    mode = draw.choice(("new", "near", "far")) if target != -1 else "new"
    return (source, draw.choice(signs), tuple(asks), tuple(deeds), target, mode)


def drawn_chart(seed, moods=12, ways=8, signs=SIGNS, numbers=NUMBERS):
    """A chart that is let, with up to so many moods and ways."""
    draw = random.Random(f"chart {seed}")
    tree = drawn_tree(f"chart {seed}", moods)
    many = len(tree.kinds)
    boxes = [(f"b{place}", draw.choice(numbers)) for place in range(draw.randint(0, 3))]
    sources = sorted(draw.randrange(many) for _ in range(draw.randint(0, ways)))
    deeds = [
        [tuple(drawn_deed(draw, boxes, numbers) for _ in range(draw.choice((0, 0, 0, 1, 2)))) for _ in range(many)]
        for _ in ("ins", "outs")
    ]
    drawn_ways = [drawn_way(draw, source, boxes, many, signs, numbers) for source in sources]
    return Chart(boxes, [f"m{mood}" for mood in range(many)], tree, deeds[0], deeds[1], drawn_ways)


def spelled_table(table):
    """All that a table holds, as a text that tells lists from tuples."""
    return repr((table.boxes, table.signs, table.begin, table.flats, sorted(table.rows.items())))


ASK = ("<", (0, 0), (-1, 3))
LOOKS = (
    ((), ()),
    ((), (("out", 1), ("way", 0), ("in", 1))),
    ((), (("call", "a"),)),
    ((), (("way", 2), ("call", "a"), ("keep", 0, -1, 1))),
    ((ASK,), ()),
    ((ASK,), (("say", "w", (0, 0)),)),
    ((ASK, ASK), (("in", 1),)),
)


def drawn_table(seed, flats=8, looks=LOOKS):
    """A table made by hand, as it were, with flats that nothing leads to; the last row of each list asks nothing."""
    draw = random.Random(f"table {seed}")
    many = draw.randint(1, flats)
    names = ("a", "b", "c")[:draw.randint(1, 3)]
    looks = draw.sample(looks, draw.randint(1, 3))
    plain = [look for look in looks if not look[0]] or [((), ())]
    rows = {}
    # Few shapes for many flats: so there are alike ones.
    shapes = [{name: draw.choice((0, 1, 1, 2)) for name in names} for _ in range(draw.choice((1, 1, 2)))]
    for number in range(many):
        shape = draw.choice(shapes)
        for name in names:
            chosen = [draw.choice(looks) for _ in range(shape[name])] + [draw.choice(plain)]
            rows[(number, name)] = [look + (draw.randrange(many),) for look in chosen]
    pairs = [(tuple(sorted(draw.sample(range(9), draw.randint(0, 3)))), (number,)) for number in range(many)]
    return Table([("x", draw.randint(0, 4))], names, draw.choice(looks)[1], pairs, rows)
