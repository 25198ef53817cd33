"""Terms and their value, asks of numbers and rows of them."""


def value(term, boxes):
    box = term[0]
    more = term[1]
    # An index of -1 would read the last box.
    if box == -1:
        return more
    return boxes[box] + more


def holds(ask, boxes):
    mark = ask[0]
    one = value(ask[1], boxes)
    other = value(ask[2], boxes)
    if mark == "<":
        return one < other
    if mark == "<=":
        return one <= other
    if mark == "=":
        return one == other
    return one != other


def all_hold(asks, boxes):
    for ask in asks:
        if not holds(ask, boxes):
            return False
    return True
