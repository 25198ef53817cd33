"""Charts, their signs and first numbers, and what is a name."""

# The words of the rows in which charts are written: none of them is a name.
WORDS = (
    "all", "and", "box", "call", "do", "far", "if", "in", "leaf", "near",
    "on", "one", "open", "out", "put", "say", "shut", "then", "to",
)
LETTERS = "abcdefghijklmnopqrstuvwxyz"
LETTERS_AND_FIGURES = "abcdefghijklmnopqrstuvwxyz0123456789"
LONGEST_NAME = 12

# Where a way keeps what it tells.
SOURCE = 0
SIGN = 1
ASKS = 2
DEEDS = 3
TARGET = 4
MODE = 5


class Chart:
    def __init__(self, boxes, names, tree, ins, outs, ways):
        self.boxes = list(boxes)
        self.names = list(names)
        self.tree = tree
        self.ins = list(ins)
        self.outs = list(outs)
        self.ways = list(ways)


def signs(chart):
    found = {}
    for way in chart.ways:
        found[way[SIGN]] = True
    return list(found)


def firsts(chart):
    return [box[1] for box in chart.boxes]


def is_name(text):
    if text == "" or len(text) > LONGEST_NAME or text in WORDS:
        return False
    if text[0] not in LETTERS:
        return False
    for sign in text:
        if sign not in LETTERS_AND_FIGURES:
            return False
    return True
