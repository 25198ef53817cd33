"""Roads down the tree, and the top of two moods."""

from moodtree.tree import above, within


def road(tree, upper, mood):
    steps = [mood]
    for elder in above(tree, mood):
        if elder == upper:
            break
        steps.append(elder)
    return list(reversed(steps))


def top(tree, one, other):
    for upper in above(tree, one):
        if tree.kinds[upper] == "one" and within(tree, other, upper):
            return upper
    return -1
