"""The forms of a text's rows: each row as (row, blanks, word, content), moods and boxes still by their names.

The name "" stands for no mood or no box: it is no name, so nothing else is called like it.
"""

from moodtree.chart import is_name
from moodtree.errors import BadRow
from moodtree.looking import MARKS

# Where a row's form keeps what it tells.
ROW = 0
BLANKS = 1
WORD = 2
CONTENT = 3

FIGURES = "0123456789"
MOST_FIGURES = 30
# Behind which part of a way's row which one may stand.
FOLLOWERS = {
    "on": ("if", "do", "to"),
    "if": ("and", "do", "to"),
    "and": ("and", "do", "to"),
    "do": ("then", "to"),
    "then": ("then", "to"),
    "to": (),
}


def form_of(line, row):
    rest = line.lstrip(" ")
    words = rest.split(" ")
    return (row, len(line) - len(rest), words[0], content_of(words, row))


def content_of(words, row):
    word = words[0]
    if word == "box" and len(words) == 3:
        return (name_of(words[1], row), number_of(words[2], row))
    if word == "one" and len(words) == 3:
        return (name_of(words[1], row), name_of(words[2], row))
    if word in ("leaf", "all") and len(words) == 2:
        return (name_of(words[1], row), "")
    if word in ("in", "out"):
        return deed_of(words[1:], row)
    if word == "on":
        return way_of(words, row)
    raise BadRow(row)


def name_of(text, row):
    if not is_name(text):
        raise BadRow(row)
    return text


def number_of(text, row):
    if not is_number(text):
        raise BadRow(row)
    return int(text)


def is_number(text):
    figures = text[1:] if text.startswith("-") else text
    return text == "0" or are_figures(figures)


def are_figures(text):
    # Figures that tell a number other than nought: so the first one is no nought.
    if text == "" or len(text) > MOST_FIGURES or text[0] == "0":
        return False
    for sign in text:
        if sign not in FIGURES:
            return False
    return True


def term_of(text, row):
    if is_number(text):
        return ("", int(text))
    mark = "-" if "-" in text else "+"
    parts = text.partition(mark)
    name = name_of(parts[0], row)
    if parts[1] == "":
        return (name, 0)
    if not are_figures(parts[2]):
        raise BadRow(row)
    more = int(parts[2])
    return (name, more if mark == "+" else -more)


def deed_of(words, row):
    if len(words) == 2 and words[0] == "call":
        return ("call", name_of(words[1], row))
    if len(words) == 3 and words[0] in ("put", "say"):
        return (words[0], name_of(words[1], row), term_of(words[2], row))
    raise BadRow(row)


def ask_of(words, row):
    if len(words) == 2 and words[0] in ("open", "shut"):
        return (words[0], name_of(words[1], row))
    if len(words) == 3 and words[1] in MARKS:
        return (words[1], term_of(words[0], row), term_of(words[2], row))
    raise BadRow(row)


def way_of(words, row):
    parts = parts_of(words)
    last = ""
    for part in parts:
        if last != "" and part[0] not in FOLLOWERS[last]:
            raise BadRow(row)
        last = part[0]
    if len(parts[0]) != 2:
        raise BadRow(row)
    asks = [ask_of(part[1:], row) for part in parts if part[0] in ("if", "and")]
    deeds = [deed_of(part[1:], row) for part in parts if part[0] in ("do", "then")]
    goal = goal_of(parts[-1], row)
    return (name_of(parts[0][1], row), asks, deeds, goal[0], goal[1])


def parts_of(words):
    parts = []
    for word in words:
        if word in FOLLOWERS:
            parts.append([word])
        else:
            parts[-1].append(word)
    return parts


def goal_of(part, row):
    if part[0] != "to":
        return ("", "new")
    if len(part) == 2:
        return (name_of(part[1], row), "new")
    if len(part) == 3 and part[2] in ("near", "far"):
        return (name_of(part[1], row), part[2])
    raise BadRow(row)
