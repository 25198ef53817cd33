"""Tables: charts made flat."""

from moodtree.flattening import grown


class Table:
    def __init__(self, boxes, signs, begin, flats, rows):
        self.boxes = list(boxes)
        self.signs = list(signs)
        self.begin = tuple(begin)
        self.flats = list(flats)
        self.rows = {}
        for key in rows:
            self.rows[key] = list(rows[key])


def flattened(chart, most=60):
    parts = grown(chart, most)
    return Table(chart.boxes, parts[0], parts[1], parts[2], parts[3])
