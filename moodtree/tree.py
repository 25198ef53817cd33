"""The tree of moods: what lies above, within and beneath a mood."""


class Tree:
    def __init__(self, kinds, elders, starts):
        self.kinds = list(kinds)
        self.elders = list(elders)
        self.starts = list(starts)


def above(tree, mood):
    found = []
    elder = tree.elders[mood]
    while elder != -1:
        found.append(elder)
        elder = tree.elders[elder]
    return found


def depth(tree, mood):
    return len(above(tree, mood))


def within(tree, mood, other):
    return other == -1 or other in above(tree, mood)


def inner(tree, mood):
    return [place for place, elder in enumerate(tree.elders) if elder == mood]


def beneath(tree, mood):
    return [place for place in range(len(tree.elders)) if within(tree, place, mood)]
