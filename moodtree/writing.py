"""Charts written as texts."""

from moodtree.chart import ASKS, DEEDS, MODE, SIGN, SOURCE, TARGET
from moodtree.tree import depth


def shown(chart):
    rows = [f"box {name} {first}" for name, first in chart.boxes]
    for mood, texts in enumerate(own_texts(chart)):
        blanks = " " * depth(chart.tree, mood)
        rows.append(blanks + mood_text(chart, mood))
        rows.extend([blanks + " " + text for text in texts])
    return "\n".join(rows)


def mood_text(chart, mood):
    kind = chart.tree.kinds[mood]
    words = [kind, chart.names[mood]]
    if kind == "one":
        words.append(chart.names[chart.tree.starts[mood]])
    return " ".join(words)


def own_texts(chart):
    found = []
    for ins, outs in zip(chart.ins, chart.outs):
        texts = ["in " + deed_text(chart, deed) for deed in ins]
        texts.extend(["out " + deed_text(chart, deed) for deed in outs])
        found.append(texts)
    for way in chart.ways:
        found[way[SOURCE]].append(way_text(chart, way))
    return found


def way_text(chart, way):
    words = ["on", way[SIGN]]
    words.extend(linked("if", "and", [ask_text(chart, ask) for ask in way[ASKS]]))
    words.extend(linked("do", "then", [deed_text(chart, deed) for deed in way[DEEDS]]))
    if way[TARGET] != -1:
        words.extend(["to", chart.names[way[TARGET]]])
    if way[MODE] != "new":
        words.append(way[MODE])
    return " ".join(words)


def linked(first, further, texts):
    words = []
    for text in texts:
        words.append(further if words else first)
        words.append(text)
    return words


def ask_text(chart, ask):
    mark = ask[0]
    if mark in ("open", "shut"):
        return mark + " " + chart.names[ask[1]]
    return " ".join([term_text(chart, ask[1]), mark, term_text(chart, ask[2])])


def deed_text(chart, deed):
    word = deed[0]
    if word == "call":
        return "call " + deed[1]
    name = chart.boxes[deed[1]][0] if word == "put" else deed[1]
    return " ".join([word, name, term_text(chart, deed[2])])


def term_text(chart, term):
    more = term[1]
    if term[0] == -1:
        return str(more)
    name = chart.boxes[term[0]][0]
    if more == 0:
        return name
    # A number below nought brings its own mark.
    return name + ("+" if more > 0 else "") + str(more)
