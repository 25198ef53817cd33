"""A table written back as a chart without nests."""

from moodtree.chart import Chart
from moodtree.journal import told
from moodtree.tree import Tree


def unnested(table):
    many = len(table.flats)
    # The root is mood 0, so the leaf of a flat is the mood one further on than the flat's number.
    tree = Tree(["one"] + ["leaf"] * many, [-1] + [0] * many, [1] + [-1] * many)
    names = ["flat"] + [f"f{number}" for number in range(many)]
    ins = [tuple(told(table.begin))] + [()] * many
    ways = []
    for number in range(many):
        for sign in table.signs:
            ways.extend(ways_of(table, number, sign))
    return Chart(table.boxes, names, tree, ins, [()] * (many + 1), ways)


def ways_of(table, number, sign):
    ways = []
    for row in table.rows[(number, sign)]:
        ways.append((number + 1, sign, tuple(row[0]), tuple(told(row[1])), row[2] + 1, "new"))
    # A last row that asks and does nothing and stays is what comes anyway where no way goes.
    if ways and ways[-1][2:] == ((), (), number + 1, "new"):
        ways.pop()
    return ways
