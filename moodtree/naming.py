"""Forms of rows with moods and boxes by their numbers in the place of their names."""

from moodtree.errors import NoName
from moodtree.forms import BLANKS, CONTENT, ROW, WORD
from moodtree.looking import KINDS


def numbered(forms):
    boxes = places([form[CONTENT][0] for form in forms if form[WORD] == "box"])
    moods = places([form[CONTENT][0] for form in forms if form[WORD] in KINDS])
    return [numbered_form(form, boxes, moods) for form in forms]


def places(names):
    found = {}
    for place, name in enumerate(names):
        found.setdefault(name, place)
    return found


def numbered_form(form, boxes, moods):
    row = form[ROW]
    word = form[WORD]
    content = form[CONTENT]
    if word in KINDS:
        content = (content[0], place_of(content[1], moods, row))
    elif word in ("in", "out"):
        content = numbered_deed(content, boxes, row)
    elif word == "on":
        content = numbered_way(content, boxes, moods, row)
    return (row, form[BLANKS], word, content)


def numbered_way(content, boxes, moods, row):
    asks = [numbered_ask(ask, boxes, moods, row) for ask in content[1]]
    deeds = [numbered_deed(deed, boxes, row) for deed in content[2]]
    return (content[0], tuple(asks), tuple(deeds), place_of(content[3], moods, row), content[4])


def numbered_ask(ask, boxes, moods, row):
    if ask[0] in ("open", "shut"):
        return (ask[0], place_of(ask[1], moods, row))
    return (ask[0], numbered_term(ask[1], boxes, row), numbered_term(ask[2], boxes, row))


def numbered_deed(deed, boxes, row):
    if deed[0] == "put":
        return ("put", place_of(deed[1], boxes, row), numbered_term(deed[2], boxes, row))
    if deed[0] == "say":
        return ("say", deed[1], numbered_term(deed[2], boxes, row))
    return deed


def numbered_term(term, boxes, row):
    return (place_of(term[0], boxes, row), term[1])


def place_of(name, given, row):
    if name == "":
        return -1
    if name not in given:
        raise NoName(row)
    return given[name]
