"""Shortest paths, found breadth first."""


def searched(start, steps_of, is_end):
    # A pair of a shortest path and the place at its end, or None. `steps_of` tells pairs of a step and the place
    # behind it. Each place keeps only the one that it was come to from: whole paths would grow far too many.
    came = {start: None}
    waiting = [start]
    at = 0
    while at < len(waiting):
        here = waiting[at]
        at += 1
        if is_end(here):
            return (path_behind(came, here), here)
        for step, behind in steps_of(here):
            if behind not in came:
                came[behind] = (here, step)
                waiting.append(behind)
    return None


def path_behind(came, end):
    path = []
    last = came[end]
    while last is not None:
        path.append(last[1])
        last = came[last[0]]
    return list(reversed(path))
