"""Journal rows as lines of text, and the tale of a text and a row of signs."""

from moodtree.flat import flattened
from moodtree.flatrun import FlatRun
from moodtree.nested import NestRun
from moodtree.reading import read


def line_of(chart, row):
    word = row[0]
    if word in ("out", "in"):
        words = [word, chart.names[row[1]]]
    elif word == "keep":
        words = [word, chart.names[row[1]], chart.names[row[3]]]
    elif word == "put":
        words = [word, chart.boxes[row[1]][0], str(row[2]), str(row[3])]
    else:
        words = [str(part) for part in row]
    return " ".join(words)


def tale(text, signs, most=0):
    chart = read(text)
    run = NestRun(chart) if most == 0 else FlatRun(flattened(chart, most))
    for sign in signs:
        run.feed(sign)
    return [line_of(chart, row) for row in run.story()]
