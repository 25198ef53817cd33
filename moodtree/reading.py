"""Texts read to charts."""

from moodtree.chart import Chart
from moodtree.errors import BadRow
from moodtree.forms import BLANKS, CONTENT, ROW, WORD, form_of
from moodtree.looking import KINDS, looked
from moodtree.naming import numbered
from moodtree.tree import Tree

# The order of the rows of one mood: its own rows don't fall behind one that is further on.
RANKS = {"leaf": 0, "one": 0, "all": 0, "in": 1, "out": 2, "on": 3}


def read(text):
    forms = numbered(formed(text))
    moods = [form for form in forms if form[WORD] in KINDS]
    kinds = [form[WORD] for form in moods]
    elders = elders_of([form[BLANKS] for form in moods])
    starts = [form[CONTENT][1] for form in moods]
    chart = Chart(
        [form[CONTENT] for form in forms if form[WORD] == "box"],
        [form[CONTENT][0] for form in moods],
        Tree(kinds, elders, starts),
        deeds_of(forms, "in"),
        deeds_of(forms, "out"),
        ways_of(forms),
    )
    looked(chart)
    return chart


def formed(text):
    forms = []
    last_word = ""
    mood_blanks = -1
    for place, line in enumerate(text.split("\n")):
        form = form_of(line, place + 1)
        if not may_stand(form, last_word, mood_blanks):
            raise BadRow(form[ROW])
        last_word = form[WORD]
        if last_word in KINDS:
            mood_blanks = form[BLANKS]
        forms.append(form)
    return forms


def may_stand(form, last_word, mood_blanks):
    # Where no mood is ahead its blanks are told as -1.
    word = form[WORD]
    blanks = form[BLANKS]
    if word == "box":
        return blanks == 0 and mood_blanks == -1
    if mood_blanks == -1:
        return blanks == 0 and word in KINDS
    if word in KINDS:
        return 1 <= blanks <= mood_blanks + 1
    return blanks == mood_blanks + 1 and RANKS[last_word] <= RANKS[word]


def elders_of(depths):
    elders = []
    line = []
    for mood, deep in enumerate(depths):
        line = line[:deep]
        elders.append(line[-1] if line else -1)
        line.append(mood)
    return elders


def deeds_of(forms, word):
    found = []
    for form in forms:
        if form[WORD] in KINDS:
            found.append([])
        elif form[WORD] == word:
            found[-1].append(form[CONTENT])
    return [tuple(deeds) for deeds in found]


def ways_of(forms):
    ways = []
    mood = -1
    for form in forms:
        if form[WORD] in KINDS:
            mood += 1
        elif form[WORD] == "on":
            ways.append((mood,) + form[CONTENT])
    return ways
