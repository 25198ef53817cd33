"""Open moods: what opens with a mood, what is entered, left and remembered."""

from moodtree.roads import road
from moodtree.tree import inner, within


def is_whole(tree, opens):
    if not is_rising(opens) or len(opens) == 0 or opens[0] != 0 or opens[-1] >= len(tree.kinds):
        return False
    for mood in opens:
        if mood != 0 and tree.elders[mood] not in opens:
            return False
        if not is_filled(tree, opens, mood):
            return False
    return True


def is_filled(tree, opens, mood):
    kind = tree.kinds[mood]
    if kind == "leaf":
        return True
    many = len([place for place in opens if tree.elders[place] == mood])
    return many == (1 if kind == "one" else len(inner(tree, mood)))


def is_rising(numbers):
    for place in range(1, len(numbers)):
        if numbers[place] <= numbers[place - 1]:
            return False
    return True


def opened(tree, memory, mood, mode):
    found = [mood]
    further = "far" if mode == "far" else "new"
    for place in opened_in(tree, memory, mood, mode):
        found.extend(opened(tree, memory, place, further))
    return found


def opened_in(tree, memory, mood, mode):
    kind = tree.kinds[mood]
    if kind == "leaf":
        return []
    if kind == "all":
        return inner(tree, mood)
    if mode == "new" or memory[mood] == -1:
        return [tree.starts[mood]]
    return [memory[mood]]


def entered(tree, memory, upper, target, mode):
    steps = road(tree, upper, target)
    found = steps[:-1] + opened(tree, memory, target, mode)
    for step in steps[:-1]:
        if tree.kinds[step] == "all":
            for place in inner(tree, step):
                if place not in steps:
                    found.extend(opened(tree, memory, place, "new"))
    return sorted(found)


def left(tree, opens, upper):
    return [mood for mood in reversed(opens) if within(tree, mood, upper)]


def remembered(tree, memory, opens, moods):
    behind = list(memory)
    for mood in opens:
        elder = tree.elders[mood]
        if elder in moods and tree.kinds[elder] == "one":
            behind[elder] = mood
    return behind
