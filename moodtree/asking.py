"""Branches: what the open leaves pick at a sign, whatever the numbers are."""

from moodtree.choosing import goable, number_asks, open_leaves
from moodtree.errors import TooWide

# Where a branch keeps what it has come to: the leaf and the way that are next, by their places in the rows of ways,
# its asks, its picks, and for each way with asks of numbers that it met whether it held.
LEAF = 0
WAY = 1
ASKED = 2
PICKED = 3
HELD = 4


def branches(chart, opens, sign, most):
    rows = [goable(chart, opens, leaf, sign) for leaf in open_leaves(chart, opens)]
    found = []
    # The last one is taken up first: so the branches end in their order, and each one taken up comes to an end.
    waiting = [(0, 0, (), (), {})]
    while waiting:
        branch = waiting.pop()
        if branch[LEAF] < len(rows):
            waiting.extend(further(chart, rows, branch))
        elif len(found) < most:
            found.append((branch[ASKED], branch[PICKED]))
        else:
            raise TooWide()
    return found


def further(chart, rows, branch):
    # Where a branch divides, the part in which the way holds stands last.
    if branch[WAY] == len(rows[branch[LEAF]]):
        return [at_next_leaf(branch)]
    way = rows[branch[LEAF]][branch[WAY]]
    asks = number_asks(chart, way)
    held = branch[HELD]
    if len(asks) == 0 or (way in held and held[way]):
        return [at_next_leaf(with_pick(branch, way))]
    if way in held:
        return [at_next_way(branch)]
    holding = (branch[LEAF], branch[WAY], branch[ASKED] + asks, branch[PICKED], with_held(held, way, True))
    failing = (branch[LEAF], branch[WAY], branch[ASKED], branch[PICKED], with_held(held, way, False))
    return [at_next_way(failing), at_next_leaf(with_pick(holding, way))]


def at_next_leaf(branch):
    return (branch[LEAF] + 1, 0, branch[ASKED], branch[PICKED], branch[HELD])


def at_next_way(branch):
    return (branch[LEAF], branch[WAY] + 1, branch[ASKED], branch[PICKED], branch[HELD])


def with_pick(branch, way):
    picked = branch[PICKED]
    if way not in picked:
        picked = picked + (way,)
    return (branch[LEAF], branch[WAY], branch[ASKED], picked, branch[HELD])


def with_held(held, way, holds):
    behind = dict(held)
    behind[way] = holds
    return behind
